import PyProof.Rows.All
import Wide.All
import OpenK.AllK
import Wide.FinOn
import HandS.ForMost
import HandS.ForExc
import HandS.Defaults
import HandS.MakeKw
import HandS.MakeKwOnly
import HandS.IsInst
import HandS.Codes
import HandS.Property
import HandS.Evl
import HandS.Steps
import HandS.More
import HandS.WideBits
import HandS.Wide
import HandS.FStr
import HandS.HeadEnd
import HandS.HeadHook2
import HandS.HeadHook4
import HandS.HeadNt
import HandS.Head0
import HandS.Head1
import HandS.Head2
import HandS.ExcIs
import KE.KOpsOwn
import KE.BitLaws
import KE.KeyNested
import PyProof.Rows.TupDisplay
import HandS.Dict
import HandS.SetFor
import HandS.Strs
import PyProof.Rows.SetFrom
import HandS.TupAny
import HandS.SortInts
import HandS.WordsExc
import HandS.ExcOwn
import HandS.CallSlots
import HandS.Iter
import KE.GoesEnum
import KE.GoesMore
import HandS.Star
import KE.KEqDeep
import HandS.Style
import KE.KSetDisp
import KE.GoesSet
import PySem.Challenge.RW_sumsplay_k62_tables
set_option Elab.async false
set_option linter.all false
set_option maxRecDepth 100000
set_option maxHeartbeats 4000000
namespace Mine
open PySem PySem.Spec PyProof.Rows L2
/-! a target o.f -/
section
variable {X : Cx} {o : Expr} {f : Str} {pos : Pos} {ta : TE}
def gFld (K : PySem.W.Frag) (ta : TE) (f : Str) : TG := fun v σ H Q => ta σ H fun x H1 =>
  ∃ a C dx fs, x = V.ref a ∧ H1 a = some (HO.ins C dx fs) ∧ Cls K C ∧ NoAttr K C f ∧ fs.length < 1000 ∧ Q σ (upd H1 a (HO.ins C dx (putF f v fs)))
theorem pg_fld (ho : PE X o ta) : PG X (.Attribute o f pos) (gFld X.K ta f) := by
  constructor
  intro pins s σ H v u Q I rv hw
  rw [assign_Attribute]
  apply wpAny_bind
  apply wpAny_holding
  refine thn (ho.run pins s σ H _ I hw) ?_
  rintro ov s1 ⟨x, H1, I1, rx, a, C, dx, fs, rfl, ea, hc, hn, hl, q⟩
  cases (show ov = Value.ref a from rx)
  apply wpAny_bind
  apply wpAny_standAt
  apply wpAny_bind
  apply wpAny_holding
  refine setattr_ok I1 ea hc hn hl rv ?_
  intro s3 I3
  exact wpAny_release ⟨σ, _, I3, q⟩
end

open Evl (Ex)
/-! readings by short names -/
abbrev rAddI : R2 := rI0 fun i j => .int (i + j)
abbrev rSubI : R2 := rI0 fun i j => .int (i - j)
abbrev rMulI : R2 := rI CMul fun i j => .int (i * j)
abbrev rDivI : R2 := rI CDiv fun i j => .int (i / j)
abbrev rDivW : R2 := rI CDivW fun i j => .int (i / j)
abbrev rMulW : R2 := rI CMulW fun i j => .int (i * j)
abbrev rModI : R2 := rI (fun _ j => 0 < j) fun i j => .int (i % j)
abbrev rPowI : R2 := rI CPow fun i j => .int (i ^ j.toNat)
abbrev rShlI : R2 := rI CPow fun i j => .int (i * 2 ^ j.toNat)
abbrev rShrI : R2 := rI (fun _ j => 0 ≤ j) fun i j => .int (i / 2 ^ j.toNat)
abbrev rAndI : R2 := rI0 fun i j => .int (Builtin.bitAnd i j)
abbrev rOrI : R2 := rI0 fun i j => .int (Builtin.bitOr i j)
abbrev rXorI : R2 := rI0 fun i j => .int (Builtin.bitXor i j)
abbrev rLtI : R2 := rI0 fun i j => .bl (decide (i < j))
abbrev rLeI : R2 := rI0 fun i j => .bl (decide (i ≤ j))
abbrev rGtI : R2 := rI0 fun i j => .bl (decide (j < i))
abbrev rGeI : R2 := rI0 fun i j => .bl (decide (j ≤ i))
abbrev rNegI : V → Hp → VK → Prop := rU fun i => .int (-i)
def rIsTy : R2 := fun x y H Q => ∃ a b, x = V.ty a ∧
  y = V.ty b ∧ Q (.bl (decide (a = b))) H
def rIntI : List V → Hp → VK → Prop := fun xs H Q => ∃ i, xs = [V.int i] ∧ Q (.int i) H
def rAbsI : List V → Hp → VK → Prop := fun xs H Q => ∃ i, xs = [V.int i] ∧ Q (.int (if i < 0 then -i else i)) H
def rMax2 : List V → Hp → VK → Prop := fun xs H Q => ∃ i j, xs = [V.int i, V.int j] ∧
  Q (.int (if j > i then j else i)) H
def rMin2 : List V → Hp → VK → Prop := fun xs H Q => ∃ i j, xs = [V.int i, V.int j] ∧
  Q (.int (if j < i then j else i)) H
def rLenQ (K : PySem.W.Frag) : List V → Hp → VK → Prop := fun xs H Q => ∃ p ys, xs = [V.ref p] ∧
  (SqL K H p ys ∨ SqT K H p ys) ∧ Q (.int ys.length) H
def rLenS : List V → Hp → VK → Prop := fun xs H Q => ∃ z, xs = [V.str z] ∧ z.length ≤ sizeLine ∧
  Q (.int z.length) H
def rListQ (K : PySem.W.Frag) : List V → Hp → VK → Prop := fun xs H Q => ∃ p ys, xs = [V.ref p] ∧
  (SqL K H p ys ∨ SqT K H p ys) ∧ ∀ l, H l = none → Q (.ref l) (upd H l (.lst ys))
def rStrI : List V → Hp → VK → Prop := fun xs H Q => ∃ i, xs = [V.int i] ∧ i.natAbs.log2 < 1920 ∧
  Q (.str (toString i)) H
def rIsC (C : Addr) : List V → Hp → VK → Prop := fun xs H Q => ∃ a dx fs, xs = [V.ref a, V.ref C] ∧
  H a = some (HO.ins C dx fs) ∧ Q (.bl true) H
def rCatS : R2 := fun x y H Q => ∃ i j, x = V.str i ∧ y = V.str j ∧ i.length + j.length ≤ sizeLine ∧
  Q (.str (i ++ j)) H
section
variable {X : Cx}
theorem cr_intI : CallR X (.type "int") rIntI := fun pins s σ H xs us Q I r h =>
  call_int1 pins s σ H xs us Q I r (Or.inl h)
theorem cr_absI : CallR X (.builtin "abs") rAbsI := call_abs
theorem cr_max2 (hc : X.calm = true) : CallR X (.builtin "max") rMax2 := call_max2 hc
theorem cr_min2 (hc : X.calm = true) : CallR X (.builtin "min") rMin2 := call_min2 hc
theorem cr_lenQ : CallR X (.builtin "len") (rLenQ X.K) := call_len_seq
theorem cr_lenS : CallR X (.builtin "len") rLenS := call_len_str
theorem cr_listQ : CallR X (.type "list") (rListQ X.K) := call_list_of
theorem cr_strI : CallR X (.type "str") rStrI := call_str_int
theorem cr_isC {C : Addr} (c : C8.InsC X.K C) : CallR X (.builtin "isinstance") (rIsC C) := C8.call_isC c
theorem cst_ok {x : Str} {i : Int} (h : ∃ t, X.mg x = some (.int i t)) : ∃ u, X.mg x = some u ∧ RelV (.int i) u :=
  let ⟨t, e⟩ := h
  ⟨_, e, t, rfl⟩
end
/-! promises: what is asked, what is given, what is raised -/
def spR (pre : List V → Hp → Prop) (post : List V → Hp → V → Hp → Prop) : Sp := fun vs H Q _ =>
  pre vs H ∧ ∀ v H', post vs H v H' → Q v H'
def spX (pre : List V → Hp → Prop) (post : List V → Hp → V → Hp → Prop) (ex : List V → Hp → Value → Option Addr → Hp → Prop) : Sp := fun vs H Q E =>
  pre vs H ∧ (∀ v H', post vs H v H' → Q v H') ∧ ∀ c d H', ex vs H c d H' → E c d H'
structure DefOk (P : Program) (w : World) (K : PySem.W.Frag) (mg : Str → Option Value) (base : Heap) (CX : CXT) (k : Nat) (x qual : Str) (st : Stmt) (dvs : List V) (f : Addr) (ps : List Str) (sp : Sp) : Prop where
  ex : ∃ fd, FunD K x qual (defArgs st) (defBody st) (defScope st) dvs [] f fd ∧ FnOk P w K mg base CX k f fd ps sp
/-! readings, step by step, forwards -/
section
variable {σ : L2.St} {H : Hp} {Q : VK} {ta tb tc te tv : TE} {K : PySem.W.Frag} {D : Ends}
theorem k_var {i : Nat} {v : V} (h : σ[i]? = some (some v)) (q : Q v H) : tVar i σ H Q := ⟨v, h, q⟩
theorem k_c {v : V} (q : Q v H) : tC v σ H Q := q
theorem k_op {r : R2} (q : ta σ H fun x H1 => tb σ H1 fun y H2 => r x y H2 Q) : tOp r ta tb σ H Q := q
theorem k_un {r : V → Hp → VK → Prop} (q : ta σ H fun x H1 => r x H1 Q) : tUn r ta σ H Q := q
theorem k_I0 {g : Int → Int → V} {i j : Int} (q : Q (g i j) H) : rI0 g (.int i) (.int j) H Q := ⟨i, j, rfl, rfl, q⟩
theorem k_I {C : Int → Int → Prop} {g : Int → Int → V} {i j : Int} (c : C i j) (q : Q (g i j) H) : rI C g (.int i) (.int j) H Q := ⟨i, j, rfl, rfl, c, q⟩
theorem k_U {g : Int → V} {i : Int} (q : Q (g i) H) : rU g (.int i) H Q := ⟨i, rfl, q⟩
theorem k_eq {x y : V} (s : scal x y = true) (q : Q (.bl (decide (x = y))) H) : rEq x y H Q := ⟨s, q⟩
theorem k_ne {x y : V} (s : scal x y = true) (q : Q (.bl (!decide (x = y))) H) : rNe x y H Q := ⟨s, q⟩
theorem k_eqI {i j : Int} (q : Q (.bl (decide (i = j))) H) : rEq (.int i) (.int j) H Q := ⟨rfl, by
  have e : decide (V.int i = V.int j) = decide (i = j) := by simp
  rw [e]; exact q⟩
theorem k_eqB {i j : Bool} (q : Q (.bl (decide (i = j))) H) : rEq (.bl i) (.bl j) H Q := ⟨rfl, by
  have e : decide (V.bl i = V.bl j) = decide (i = j) := by simp
  rw [e]; exact q⟩
theorem k_neI {i j : Int} (q : Q (.bl (decide (i ≠ j))) H) : rNe (.int i) (.int j) H Q := ⟨rfl, by
  have e : (!decide (V.int i = V.int j)) = decide (i ≠ j) := by simp
  rw [e]; exact q⟩
theorem k_isTy {a b : String} (q : Q (.bl (decide (a = b))) H) : rIsTy (.ty a) (.ty b) H Q := ⟨a, b, rfl, rfl, q⟩
theorem k_isN {x : V} (q : Q (.bl (decide (x = .non))) H) : rIsN x .non H Q := ⟨rfl, q⟩
theorem k_notN {x : V} (q : Q (.bl (!decide (x = .non))) H) : rNotN x .non H Q := ⟨rfl, q⟩
theorem k_ixL {p : Addr} {xs : List V} {i : Int} {v : V} (h : SqL K H p xs) (e : atI xs i = some v) (q : Q v H) : rIxL K (.ref p) (.int i) H Q := ⟨p, xs, i, v, rfl, rfl, h, e, q⟩
theorem k_ixT {p : Addr} {xs : List V} {i : Int} {v : V} (h : SqT K H p xs) (e : atI xs i = some v) (q : Q v H) : rIxT K (.ref p) (.int i) H Q := ⟨p, xs, i, v, rfl, rfl, h, e, q⟩
theorem k_andV (q : ta σ H fun x H1 => ∃ c, x = .bl c ∧ if c = true then tb σ H1 Q else Q (.bl false) H1) : tAndV ta tb σ H Q := q
theorem k_orV (q : ta σ H fun x H1 => ∃ c, x = .bl c ∧ if c = true then Q (.bl true) H1 else tb σ H1 Q) : tOrV ta tb σ H Q := q
theorem k_notV (q : ta σ H fun x H1 => ∃ c, x = .bl c ∧ Q (.bl (!c)) H1) : tNotV ta σ H Q := q
theorem k_if {t : TT} (q : t σ H fun c H1 => if c = true then ta σ H1 Q else tb σ H1 Q) : tIf t ta tb σ H Q := q
theorem k_chain {r r' : R2} (q : ta σ H fun x H1 => tb σ H1 fun y H2 => r x y H2 fun z H3 => ∃ k, z = .bl k ∧ (if k = true then tc σ H3 fun w' H4 => r' y w' H4 Q else Q (.bl false) H3)) : tChain r r' ta tb tc σ H Q := q
theorem k_bl {P : Bool → Prop} {c : Bool} (q : P c) : ∃ k, V.bl c = V.bl k ∧ P k := ⟨c, rfl, q⟩
theorem k_tup {t : TA} (q : t σ H fun xs H1 => xs.length ≤ sizeLine ∧ ∀ p, H1 p = none → Q (.ref p) (upd H1 p (.tup xs))) : tTup t σ H Q := q
theorem k_lst {t : TA} (q : t σ H fun xs H1 => xs.length ≤ sizeLine ∧ ∀ p, H1 p = none → Q (.ref p) (upd H1 p (.lst xs))) : tLst t σ H Q := q
theorem k_cb {r : List V → Hp → VK → Prop} {t : TA} (q : t σ H fun vs H1 => r vs H1 Q) : tCB r t σ H Q := q
theorem k_nil {R : List V → Hp → Prop} (q : R [] H) : tNil σ H R := q
theorem k_cons {t : TA} {R : List V → Hp → Prop} (q : ta σ H fun x H1 => t σ H1 fun xs H2 => R (x :: xs) H2) : tCons ta t σ H R := q
theorem k_rInt {i : Int} (q : Q (.int i) H) : rIntI [.int i] H Q := ⟨i, rfl, q⟩
theorem k_rAbs {i : Int} (q : Q (.int (if i < 0 then -i else i)) H) : rAbsI [.int i] H Q := ⟨i, rfl, q⟩
theorem k_rMax {i j : Int} (q : Q (.int (if j > i then j else i)) H) : rMax2 [.int i, .int j] H Q := ⟨i, j, rfl, q⟩
theorem k_rMin {i j : Int} (q : Q (.int (if j < i then j else i)) H) : rMin2 [.int i, .int j] H Q := ⟨i, j, rfl, q⟩
theorem k_rLenL {p : Addr} {ys : List V} (h : SqL K H p ys) (q : Q (.int ys.length) H) : rLenQ K [.ref p] H Q := ⟨p, ys, rfl, Or.inl h, q⟩
theorem k_rLenT {p : Addr} {ys : List V} (h : SqT K H p ys) (q : Q (.int ys.length) H) : rLenQ K [.ref p] H Q := ⟨p, ys, rfl, Or.inr h, q⟩
theorem k_rStr {i : Int} (h : i.natAbs.log2 < 1920) (q : Q (.str (toString i)) H) : rStrI [.int i] H Q := ⟨i, rfl, h, q⟩
theorem k_rIsC {C a dx : Addr} {fs : List (Str × V)} (h : H a = some (.ins C dx fs)) (q : Q (.bl true) H) : rIsC C [.ref a, .ref C] H Q := ⟨a, dx, fs, rfl, h, q⟩
theorem k_isi {x c : V} {t u : Value} {b : Bool} (hc : ClsV c u) (ht : TyX K H x t) (e : PySem.W.kitOne K t u = some b) (q : Q (.bl b) H) : rIsi K [x, c] H Q := ⟨x, c, t, u, b, rfl, hc, ht, e, q⟩
theorem k_fld {a C dx : Addr} {fs : List (Str × V)} {f : Str} {v : V} (ha : ta σ H fun x H1 => x = .ref a ∧ H1 a = some (.ins C dx fs) ∧ Cls K C ∧ NoAttr K C f ∧ fs.lookup f = some v ∧ Q v H1)
    (mono : ∀ Q1 Q2 : VK, (∀ x H1, Q1 x H1 → Q2 x H1) → ta σ H Q1 → ta σ H Q2) : tFld K ta f σ H Q :=
  mono _ _ (fun _ _ ⟨h1, h2, h3, h4, h5, h6⟩ => ⟨a, C, dx, fs, v, h1, h2, h3, h4, h5, h6⟩) ha
theorem k_call {sp : Sp} {dvs : List V} {E : XK} {t : TA} (q : t σ H fun vs H1 => sp (vs ++ dvs) H1 Q E) : tCall sp dvs E t σ H Q := q
theorem k_meth {C : Addr} {m : Str} {sp : Sp} {dvs : List V} {E : XK} {t : TA} (q : ta σ H fun x H1 => ∃ a dx fs, x = .ref a ∧ H1 a = some (.ins C dx fs) ∧ fs.lookup m = none ∧ t σ H1 fun vs H2 => sp (x :: (vs ++ dvs)) H2 Q E) : tMeth C m sp dvs E ta t σ H Q := q
theorem k_make {C : Addr} {sp : Sp} {dvs : List V} {E : XK} {t : TA} (q : t σ H fun vs H1 => ∀ x dx, H1 x = none → H1 dx = none → dx ≠ x → sp (.ref x :: (vs ++ dvs)) (upd (upd H1 dx (.own x)) x (.ins C dx [])) (fun v H2 => v = .non ∧ Q (.ref x) H2) E) : tMake C sp dvs E t σ H Q := q
theorem k_prop {C : Addr} {sp : Sp} {dvs : List V} {E : XK} (q : ta σ H fun x H1 => ∃ a dx fs, x = .ref a ∧ H1 a = some (.ins C dx fs) ∧ sp (.ref a :: dvs) H1 Q E) : tProp C sp dvs E ta σ H Q := q
/-! tests -/
variable {t u : TT} {R : Bool → Hp → Prop}
theorem k_test (q : te σ H fun x H' => ∃ k, x = .bl k ∧ R k H') : tTest te σ H R := q
theorem k_B (q : te σ H fun x H' => ∃ k, x = .bl k ∧ R k H') : tB te σ H R := q
theorem k_and (q : t σ H fun c H1 => if c = true then u σ H1 R else R false H1) : tAnd t u σ H R := q
theorem k_or (q : t σ H fun c H1 => if c = true then R true H1 else u σ H1 R) : tOr t u σ H R := q
theorem k_not (q : t σ H fun c H1 => R (!c) H1) : tNot t σ H R := q
/-! statements -/
variable {t1 t2 : TS} {g : TG}
theorem k_seq (q : t1 { D with nx := t2 D } σ H) : tSeq t1 t2 D σ H := q
theorem k_next (q : D.nx σ H) : tNext D σ H := q
theorem k_asg (q : te σ H fun x H1 => g x σ H1 D.nx) : tAsg te g D σ H := q
theorem k_name {i : Nat} {v : V} {R : L2.St → Hp → Prop} (q : R (σ.set i (some v)) H) : gName i v σ H R := q
theorem k_ret (q : te σ H D.rt) : tRet te D σ H := q
theorem k_drop (q : te σ H fun _ H1 => D.nx σ H1) : tDrop te D σ H := q
theorem k_ifS (q : t σ H fun b H1 => if b = true then t1 D σ H1 else t2 D σ H1) : tIfS t t1 t2 D σ H := q
theorem k_gtup {n : Nat} {tg : TGs} {a : Addr} {xs : List V} {R : L2.St → Hp → Prop} (h : SqT K H a xs) (l : xs.length = n) (q : tg xs σ H R) : gTup K n tg (.ref a) σ H R := ⟨a, xs, rfl, h, l, q⟩
theorem k_gcons {tg : TG} {tr : TGs} {v : V} {r : List V} {R : L2.St → Hp → Prop} (q : tg v σ H fun σ' H' => tr r σ' H' R) : gCons tg tr (v :: r) σ H R := ⟨v, r, rfl, q⟩
theorem k_gnil {R : L2.St → Hp → Prop} (q : R σ H) : gNil [] σ H R := ⟨rfl, q⟩
theorem k_gfld {a C dx : Addr} {i : Nat} {fs : List (Str × V)} {f : Str} {v : V} {R : L2.St → Hp → Prop} (hs : σ[i]? = some (some (.ref a))) (h : H a = some (.ins C dx fs)) (hc : Cls K C) (hn : NoAttr K C f) (hl : fs.length < 1000) (q : R σ (upd H a (.ins C dx (putF f v fs)))) : gFld K (tVar i) f v σ H R :=
  ⟨_, hs, a, C, dx, fs, rfl, h, hc, hn, hl, q⟩
theorem k_fldv {a C dx : Addr} {i : Nat} {fs : List (Str × V)} {f : Str} {v : V} (hs : σ[i]? = some (some (.ref a))) (h : H a = some (.ins C dx fs)) (hc : Cls K C) (hn : NoAttr K C f) (hl : fs.lookup f = some v) (q : Q v H) : tFld K (tVar i) f σ H Q :=
  ⟨_, hs, a, C, dx, fs, v, rfl, h, hc, hn, hl, q⟩
theorem k_iteT {A B : Prop} (q : A) : if true = true then A else B := q
theorem k_iteF {A B : Prop} (q : B) : if false = true then A else B := by simpa using q
theorem k_pow12 (q : Q (.int 1000000000000) H) : rPowI (.int 10) (.int 12) H Q := k_I ⟨by decide, by decide, by decide⟩ q
theorem k_pow11 (q : Q (.int 100000000000) H) : rPowI (.int 10) (.int 11) H Q := k_I ⟨by decide, by decide, by decide⟩ q
theorem k_pow9 (q : Q (.int 1000000000) H) : rPowI (.int 10) (.int 9) H Q := k_I ⟨by decide, by decide, by decide⟩ q
theorem k_pow30 (q : Q (.int 1000000000000000000000000000000) H) : rPowI (.int 10) (.int 30) H Q := k_I ⟨by decide, by decide, by decide⟩ q
theorem k_pow18 (q : Q (.int 1000000000000000000) H) : rPowI (.int 10) (.int 18) H Q := k_I ⟨by decide, by decide, by decide⟩ q
theorem k_minL {i j : Int} (q : ∀ m, m ≤ i → m ≤ j → (m = i ∨ m = j) → Q (.int m) H) : rMin2 [.int i, .int j] H Q := by
  refine ⟨i, j, rfl, ?_⟩
  by_cases h : j < i
  · rw [if_pos h]; exact q j (by omega) (by omega) (Or.inr rfl)
  · rw [if_neg h]; exact q i (by omega) (by omega) (Or.inl rfl)
theorem k_maxL {i j : Int} (q : ∀ m, i ≤ m → j ≤ m → (m = i ∨ m = j) → Q (.int m) H) : rMax2 [.int i, .int j] H Q := by
  refine ⟨i, j, rfl, ?_⟩
  by_cases h : j > i
  · rw [if_pos h]; exact q j (by omega) (by omega) (Or.inr rfl)
  · rw [if_neg h]; exact q i (by omega) (by omega) (Or.inl rfl)
theorem k_shl1 {j : Int} (h : 0 ≤ j ∧ j ≤ 1000000) (q : ∀ m : Int, 1 ≤ m → m = 2 ^ j.toNat → Q (.int m) H) : rShlI (.int 1) (.int j) H Q := by
  refine k_I ⟨h.1, h.2, by decide⟩ ?_
  rw [Int.one_mul]
  refine q _ ?_ rfl
  have hp : (0 : Int) < 2 ^ j.toNat := Int.pow_pos (by decide)
  omega
theorem k_iteNT {A B : Prop} (q : B) : if (!true) = true then A else B := by simpa using q
theorem k_iteNF {A B : Prop} (q : A) : if (!false) = true then A else B := by simpa using q
theorem k_raise {E : XK} {c : Value} (q : E c none H) : tRaise E c D σ H := q
theorem k_iteD {p A B : Prop} [Decidable p] (h1 : p → A) (h2 : ¬ p → B) : if decide p = true then A else B := by
  by_cases h : p
  · rw [if_pos (decide_eq_true h)]; exact h1 h
  · rw [if_neg (by simpa using h)]; exact h2 h
theorem k_iteN {p A B : Prop} [Decidable p] (h1 : ¬ p → A) (h2 : p → B) : if (!decide p) = true then A else B := by
  by_cases h : p
  · rw [if_neg (by simpa using h)]; exact h2 h
  · rw [if_pos (by simpa using h)]; exact h1 h
theorem k_iteB {b : Bool} {A B : Prop} (h1 : b = true → A) (h2 : b = false → B) : if b = true then A else B := by
  cases b
  · rw [if_neg (by decide)]; exact h2 rfl
  · exact h1 rfl
theorem k_sq {a : Addr} {xs : List V} (h : H a = some (.lst xs)) : SqL K H a xs := Or.inl (Or.inl h)
theorem k_st {a : Addr} {xs : List V} (h : H a = some (.tup xs)) : SqT K H a xs := Or.inl (Or.inl h)
theorem k_while (W : Nat → L2.St → Hp → Prop) (m0 : Nat) (h0 : W m0 σ H)
    (hs : ∀ m σ H, W m σ H → t σ H fun b H1 => if b = true then ∃ N : L2.St → Hp → Prop, (∀ σ' H', N σ' H' → ∃ m', m' < m ∧ W m' σ' H') ∧
      t1 { D with nx := N, ct := N, bk := D.nx } σ H1 else D.nx σ H1) : tWhile t t1 D σ H := ⟨W, ⟨m0, h0⟩, hs⟩
/-- what a loop asks, by a word of its turns -/
def forK (g : TG) (tb : TS) (D : Ends) (σ : L2.St) : It → Hp → Prop := fun J H1 =>
  ∃ W : Nat → Nat → L2.St → Hp → Prop, (∃ m, W 0 m σ H1) ∧
    ∀ i m σ H, W i m σ H → (J.stop i H ∧ D.nx σ H) ∨ (J.go i H ∧
      ∃ N : L2.St → Hp → Prop, (∀ σ' H', N σ' H' → ∃ m', m' < m ∧ W (i + 1) m' σ' H') ∧
        ∀ x H', J.yld i H x H' → g x σ H' fun σ2 H2 => tb { D with nx := N, ct := N, bk := D.nx } σ2 H2)
theorem k_for {wi : TI} {g : TG} {tb : TS} (q : wi σ H (forK g tb D σ)) : tFor wi g tb D σ H := q
theorem k_rng1 {ta : TA} {R : It → Hp → Prop} (q : ta σ H fun vs H1 => ∃ j : Int, vs = [.int j] ∧
  -(2 ^ 62) ≤ j ∧ j < 2 ^ 62 ∧ R (Itr 0 j.toNat) H1) : iRng1 ta σ H R := q
theorem k_rng2 {ta : TA} {R : It → Hp → Prop} (q : ta σ H fun vs H1 => ∃ i j : Int, vs = [.int i, .int j] ∧
  (-(2 ^ 62) ≤ i ∧ i < 2 ^ 62 ∧ -(2 ^ 62) ≤ j ∧ j < 2 ^ 62) ∧ R (Itr i (j - i).toNat) H1) : iRng2 ta σ H R := q
theorem k_ilist {tl : TE} {R : It → Hp → Prop} (q : tl σ H fun x H1 => ∃ a, x = .ref a ∧
  (∃ xs, SqL K H1 a xs) ∧ R (Itl K a) H1) : iList K tl σ H R := q
theorem k_itup {tl : TE} {R : It → Hp → Prop} (q : tl σ H fun x H1 => ∃ a, x = .ref a ∧
  (∃ xs, SqT K H1 a xs) ∧ R (Itt K a) H1) : iTup K tl σ H R := q
theorem forK_range {g : TG} {tb : TS} {n : Nat} (Pv : Nat → L2.St → Hp → Prop) (h0 : Pv 0 σ H)
    (hs : ∀ (i : Nat) σ' H', i < n → Pv i σ' H' → g (.int (i : Int)) σ' H' fun σ2 H2 => tb { D with nx := Pv (i + 1), ct := Pv (i + 1), bk := D.nx } σ2 H2)
    (hd : ∀ σ' H', Pv n σ' H' → D.nx σ' H') : forK g tb D σ (Itr 0 n) H := by
  refine for_range (lo := 0) (n := n) Pv h0 (fun i σ' H' hi p => ?_) hd
  have e0 : (0 : Int) + (i : Int) = (i : Int) := Int.zero_add _
  rw [e0]
  exact hs i σ' H' hi p
theorem forK_list {g : TG} {tb : TS} {a : Addr} {xs : List V} (Pv : Nat → L2.St → Hp → Prop) (h0 : Pv 0 σ H)
    (hl : ∀ i σ' H', i ≤ xs.length → Pv i σ' H' → SqL K H' a xs)
    (hs : ∀ i x σ' H', xs[i]? = some x → Pv i σ' H' → g x σ' H' fun σ2 H2 => tb { D with nx := Pv (i + 1), ct := Pv (i + 1), bk := D.nx } σ2 H2)
    (hd : ∀ σ' H', Pv xs.length σ' H' → D.nx σ' H') : forK g tb D σ (Itl K a) H := for_list Pv h0 hl hs hd
end
section
variable {σ : L2.St} {H : Hp} {Q : VK} {ta te : TE} {K : PySem.W.Frag}
theorem k_bm {T : String} {r : V → List V → Hp → VK → Prop} {t : TA} (q : ta σ H fun x H1 => tyV K T x H1 ∧
  t σ H1 fun xs H2 => r x xs H2 Q) : tBM K T r ta t σ H Q := q
theorem k_bm0 {T : String} {r : V → List V → Hp → VK → Prop} (q : ta σ H fun x H1 => tyV K T x H1 ∧ r x [] H1 Q) : tBM0 K T r ta σ H Q := q
theorem k_tyl {l : Addr} {xs : List V} {P : Prop} (h : SqL K H l xs) (q : P) : tyV K "list" (.ref l) H ∧ P := ⟨Or.inl ⟨rfl, xs, h⟩, q⟩
theorem k_rApp {l : Addr} {xs : List V} {y : V} (h : H l = some (.lst xs)) (z : xs.length < sizeLine) (q : Q .non (upd H l (.lst (xs ++ [y])))) : rAppend (.ref l) [y] H Q := ⟨l, xs, y, rfl, rfl, h, z, q⟩
theorem k_sizeL {α : Type} {xs : List α} {f : α → V} (h : xs.length ≤ 100000) : (xs.map f).length < sizeLine := by
  rw [List.length_map]; exact Nat.lt_of_le_of_lt h (by decide)
end
section
variable {σ : L2.St} {H : Hp} {t u : TS} {D : Ends}
theorem k_cut (Mid : L2.St → Hp → Prop) (h : t { D with nx := Mid } σ H) (r : ∀ σ' H', Mid σ' H' → u D σ' H') : Evl.tCut t u D σ H := ⟨Mid, h, r⟩
end
theorem tr_step {H H' : Hp} {a : Addr} {o : HO} (e : Ex H H') (h : H a = some o) : H' a = some o := e a o h
section
variable {X : Cx} {CX : CXT} {k : Nat} {f C : Addr} {fd : FuncData} {ps : List Str} {sp : Sp} {E : XK}
/-- x op y, both instances of the class at C -/
def rMine (C : Addr) (sp : Sp) (E : XK) : R2 := fun x y H Q => ∃ a dx fs b dy gs,
  x = V.ref a ∧ y = V.ref b ∧ H a = some (HO.ins C dx fs) ∧ H b = some (HO.ins C dy gs) ∧ sp [x, y] H Q E
def rMine1 (C : Addr) (sp : Sp) (E : XK) : V → Hp → VK → Prop := fun x H Q => ∃ a dx fs,
  x = V.ref a ∧ H a = some (HO.ins C dx fs) ∧ sp [x] H Q E
theorem back_of {z : V} {u : Value} {s' : Shared} {R : Value → Shared → Prop} (r : RelV z u) (q : R u s') : PySem.W.CmpBack R u s' := by
  cases z with
  | non => cases r; exact q
  | bl b => cases r; exact q
  | int i => obtain ⟨t, rfl⟩ := r; exact q
  | str i => obtain ⟨t, rfl⟩ := r; exact q
  | byt i => obtain ⟨t, rfl⟩ := r; exact q
  | flt i => obtain ⟨t, rfl⟩ := r; exact q
  | ref a => cases r; exact q
  | ty n => cases r; exact q
theorem op_mine {op : Operator} (hc : PySem.W.selfFirst X.K C = true) (hm : Meth X.K C (PySem.dunder op.info.2) f) (F : FnOk X.prog X.w X.K X.mg X.base CX k f fd ps sp) (hr : Room k X.A) (hb : Binds X.K fd ps []) (hx : Passes CX X E) :
    OpR X (binaryOp op) (rMine C sp E) := by
  rintro pins s σ H x y v u Q I rx ry ⟨a, dx, fs, b, dy, gs, rfl, rfl, ha, hb', q⟩
  cases (show v = Value.ref a from rx)
  cases (show u = Value.ref b from ry)
  obtain ⟨mA, O, _⟩ := ins_get I.hok ha
  obtain ⟨mB, O', _⟩ := ins_get I.hok hb'
  obtain ⟨od, J, _⟩ := O.look
  obtain ⟨od', J', _⟩ := O'.look
  obtain ⟨m, hF⟩ := I.fr
  refine PySem.W.binop_K hF I.ok.mod.kin J J'.type hc hm.at_ hm.fn ?_
  refine wpAny_mono (run_fn (us := [.ref a, .ref b]) (vs := [.ref a, .ref b]) (dvs := []) (ds := []) F hr hb .nil hx I (.cons rfl (.cons rfl .nil)) q) ?_ (fun _ _ z => z)
  rintro u' s' ⟨z, H', I', rz, qz⟩
  exact back_of (R := EP X pins σ Q) rz ⟨z, H', I', rz, qz⟩
theorem un_mine (hm : Meth X.K C "__neg__" f) (F : FnOk X.prog X.w X.K X.mg X.base CX k f fd ps sp) (hr : Room k X.A) (hb : Binds X.K fd ps []) (hx : Passes CX X E) :
    UnR X (unaryOp .USub) (rMine1 C sp E) := by
  rintro pins s σ H x v Q I rx ⟨a, dx, fs, rfl, ha, q⟩
  cases (show v = Value.ref a from rx)
  obtain ⟨mA, O, _⟩ := ins_get I.hok ha
  obtain ⟨od, J, _⟩ := O.look
  obtain ⟨m, hF⟩ := I.fr
  refine PySem.W.ksp_neg hF I.ok.mod.kin J hm.at_ hm.fn ?_
  exact run_fn (us := [.ref a]) (vs := [.ref a]) (dvs := []) (ds := []) F hr hb .nil hx I (.cons rfl .nil) q
end
/-! small facts -/
theorem get_int {ns : List Int} {i : Nat} {y : V} (h : (ns.map V.int)[i]? = some y) : ∃ z, ns[i]? = some z ∧ y = .int z := by
  rw [List.getElem?_map] at h
  cases e : ns[i]? with
  | none => rw [e] at h; cases h
  | some z => rw [e] at h; exact ⟨z, rfl, (Option.some.inj h).symm⟩
theorem at_int {ns : List Int} {k : Int} (h0 : 0 ≤ k) (h1 : k < ns.length) : ∃ z, ns[k.toNat]? = some z ∧ atI (ns.map V.int) k = some (.int z) := by
  have hk : k.toNat < ns.length := by omega
  refine ⟨ns[k.toNat], by simp [hk], ?_⟩
  have e : ((k.toNat : Nat) : Int) = k := by omega
  have z : atI (ns.map V.int) ((k.toNat : Nat) : Int) = some (V.int ns[k.toNat]) := atI_nat (by simp [hk])
  rw [e] at z
  exact z
theorem ex_of {H H' : Hp} (e : H' = H) : Ex H H' := by rw [e]; exact Evl.Ex.refl H
theorem ex_upd {H : Hp} {p : Addr} {o : HO} (h : H p = none) : Ex H (upd H p o) := Evl.Ex.new h
theorem two_le : ∀ a b : V, [a, b].length ≤ sizeLine := fun _ _ => by show 2 ≤ sizeLine; decide
end Mine
namespace Mine
open PySem PySem.Spec PyProof.Rows L2
open PySem.W (Frag)
/-! the facts of the head: a list of tests of the written part, and the defs -/
def obsM (fs : List (Frag → Bool)) (fn : List He5.DefA) (K : Frag) : He.AlD :=
  ((fs.all fun f => f K) && fn.all fun d => d.ok K, fn.map fun d => He5.fnA K (d.at_ K))
def SaysM (fs : List (Frag → Bool)) (fn : List He5.DefA) (K : Frag) : Prop := obsM fs fn K = He5.valA fn
def obsMG (n : Nat) (fs : List (Frag → Bool)) (fn : List He5.DefA) (g : Addr → Option Obj) : He.AlD := obsM fs fn (He.frG g (He5.asA g n))
def hookM (n : Nat) (fs : List (Frag → Bool)) (fn : List He5.DefA) : PySem.W.Hook where
  α := He.AlD
  obs s := obsMG n fs fn s.heap.get?
  val _ := He5.valA fn
  says _ h := ∃ K : Frag, K.In h ∧ SaysM fs fn K
  of _ _ e := ⟨_, He.frG_in, e⟩
  keeps _ _ _ := fun ⟨K, hK, c⟩ k => ⟨K, PySem.W.Frag.In.keeps hK k, c⟩
theorem obsMG_eq {n : Nat} {fs : List (Frag → Bool)} {fn : List He5.DefA} {g : Addr → Option Obj} {s : Shared} (h : ∀ a, g a = s.heap.get? a) :
    obsMG n fs fn g = (hookM n fs fn).obs s := by
  have e : g = s.heap.get? := funext h
  subst e
  rfl
theorem SaysM.fact {fs : List (Frag → Bool)} {fn : List He5.DefA} {K : Frag} (c : SaysM fs fn K) (i : Nat) {f : Frag → Bool} (h : fs[i]? = some f) : f K = true := by
  have c1 : ((fs.all fun f => f K) && fn.all fun d => d.ok K) = true := congrArg (fun z : He.AlD => z.1) c
  exact List.all_eq_true.mp (Bool.and_eq_true_iff.mp c1).1 f (List.mem_of_getElem? h)
theorem SaysM.dfn {fs : List (Frag → Bool)} {fn : List He5.DefA} {K : Frag} (c : SaysM fs fn K) (i : Nat) {d : He5.DefA} (h : fn[i]? = some d) :
    ∃ fd, FunD K d.name d.qual d.params d.body d.scope (d.dvs K) (d.kws K) (d.at_ K) fd := by
  have c1 : ((fs.all fun f => f K) && fn.all fun d => d.ok K) = true := congrArg (fun z : He.AlD => z.1) c
  have c2 := List.all_eq_true.mp (Bool.and_eq_true_iff.mp c1).2 d (List.mem_of_getElem? h)
  have e : (fn.map fun d => He5.fnA K (d.at_ K)) = fn.map He5.DefA.val := congrArg (fun z : He.AlD => z.2) c
  have e2 := congrArg (fun l => l[i]?) e
  simp only [List.getElem?_map, h, Option.map_some, Option.some.injEq] at e2
  exact He5.DefA.funD e2 c2
end Mine
namespace Mine
open PySem PySem.Spec PyProof.Rows L2
theorem fd_same {K : PySem.W.Frag} {x q x' q' : Str} {a a' : Arguments} {b b' : List Stmt} {c c' : Scope} {d d' : List V} {k k' : List (Str × V)} {f : Addr} {fd fd' : FuncData} (F : FunD K x q a b c d k f fd) (G : FunD K x' q' a' b' c' d' k' f fd') : fd = fd' := by
  obtain ⟨_, _, _, _, _, _, _, _, _, _, _, l, _⟩ := F.ex
  obtain ⟨_, _, _, _, _, _, _, _, _, _, _, l', _⟩ := G.ex
  have e := Option.some.inj (l.symm.trans l')
  injection e with _ _ e
  injection e
end Mine
namespace Mine
open PySem PySem.Spec PyProof.Rows L2
def propG (K : PySem.W.Frag) (C f : Str) : Addr := match PySem.W.recIn K (He.ma K (He.ga K C) f) "property" with
  | some (.ref g :: _) => g
  | _ => 0
def propB (K : PySem.W.Frag) (C f : Str) : Bool :=
  He.eqO (PySem.W.findIn K (.ref (He.ga K C)) f) (some (some (.ref (He.ma K (He.ga K C) f)))) &&
  (He.eqO (PySem.W.specialIn K (.ref (He.ma K (He.ga K C) f)) "__get__") (some (some (.builtin "property.__get__"))) &&
  (decide (PySem.W.takesIn K (.ref (He.ma K (He.ga K C) f)) = some true) &&
  match PySem.W.recIn K (He.ma K (He.ga K C) f) "property" with
  | some (.ref _ :: _) => true
  | _ => false))
theorem prop_ok {K : PySem.W.Frag} {C f : Str} (h : propB K C f = true) : PropOf K (He.ga K C) f (He.ma K (He.ga K C) f) (propG K C f) := by
  unfold propB at h
  rw [Bool.and_eq_true, Bool.and_eq_true, Bool.and_eq_true] at h
  obtain ⟨h1, h2, h3, h4⟩ := h
  refine ⟨He.eqO_ok h1, He.eqO_ok h2, of_decide_eq_true h3, ?_⟩
  unfold propG
  split at h4
  · rename_i g rest e
    rw [e]; exact ⟨_, rfl⟩
  · cases h4
def inscB (K : PySem.W.Frag) (C : Str) : Bool :=
  (He.Fa.cls C).ok K && (He.eqO (PySem.W.findIn K (.ref (He.ga K C)) "__class__") (some (some (.builtin "object.__class__"))) &&
  (He.eqO (PySem.W.specialIn K (.builtin "object.__class__") "__get__") (some (some (.builtin "getset_descriptor.__get__"))) &&
  (decide (PySem.W.takesIn K (.builtin "object.__class__") = some true) && (decide (PySem.W.mroIn K (He.ga K C) (.type "object") = some true) &&
  decide (PySem.W.kitOne K (.ref (He.ga K C)) (.ref (He.ga K C)) = some true)))))
theorem insc_ok {K : PySem.W.Frag} {C : Str} (h : inscB K C = true) : C8.InsC K (He.ga K C) := by
  unfold inscB at h
  rw [Bool.and_eq_true, Bool.and_eq_true, Bool.and_eq_true, Bool.and_eq_true, Bool.and_eq_true] at h
  obtain ⟨h1, h2, h3, h4, h5, h6⟩ := h
  exact ⟨He.cls_ok h1, He.eqO_ok h2, He.eqO_ok h3, of_decide_eq_true h4, of_decide_eq_true h5, of_decide_eq_true h6⟩
end Mine
namespace Mine
open PySem L2
theorem cls_ty (T : String) : ClsV (.ty T) (.type T) := .ty T
theorem k_isiII {K : PySem.W.Frag} {H : Hp} {Q : VK} {i : Int} (q : Q (.bl true) H) : rIsi K [.int i, .ty "int"] H Q :=
  k_isi (cls_ty "int") (.base (.int i)) (kit_ty (b := "int") (r := true) (by decide +kernel)) q
theorem k_isiIB {K : PySem.W.Frag} {H : Hp} {Q : VK} {i : Int} (q : Q (.bl false) H) : rIsi K [.int i, .ty "bool"] H Q :=
  k_isi (cls_ty "bool") (.base (.int i)) (kit_ty (b := "bool") (r := false) (by decide +kernel)) q
theorem k_isiBB {K : PySem.W.Frag} {H : Hp} {Q : VK} {b : Bool} (q : Q (.bl true) H) : rIsi K [.bl b, .ty "bool"] H Q :=
  k_isi (cls_ty "bool") (.base (.bl b)) (kit_ty (b := "bool") (r := true) (by decide +kernel)) q
/-- the plain form of top / 2 ** power -/
def plainZ : Int → Nat → Int × Int
  | t, 0 => (t, 0)
  | t, n + 1 => if t % 2 = 0 then plainZ (t / 2) n else (t, ((n + 1 : Nat) : Int))
theorem plainZ_zero (t : Int) : plainZ t 0 = (t, 0) := rfl
theorem plainZ_even {t : Int} {n : Nat} (h : t % 2 = 0) : plainZ t (n + 1) = plainZ (t / 2) n := by
  show (if t % 2 = 0 then _ else _) = _
  rw [if_pos h]
theorem plainZ_odd {t : Int} {n : Nat} (h : ¬ t % 2 = 0) : plainZ t (n + 1) = (t, ((n + 1 : Nat) : Int)) := by
  show (if t % 2 = 0 then _ else _) = _
  rw [if_neg h]
theorem plainZ_le : ∀ (t : Int) (n : Nat), 0 ≤ (plainZ t n).2 ∧ (plainZ t n).2 ≤ n
  | t, 0 => by simp [plainZ]
  | t, n + 1 => by
    have ih := plainZ_le (t / 2) n
    by_cases h : t % 2 = 0
    · rw [plainZ_even h]; omega
    · rw [plainZ_odd h]; simp only; omega
/-- the plain form, in words: an even top stands with power 0 alone -/
theorem plainZ_plain : ∀ (t : Int) (n : Nat), (plainZ t n).2 = 0 ∨ ¬ (plainZ t n).1 % 2 = 0
  | t, 0 => Or.inl rfl
  | t, n + 1 => by
    by_cases h : t % 2 = 0
    · rw [plainZ_even h]; exact plainZ_plain _ _
    · rw [plainZ_odd h]; exact Or.inr h
/-- the value: t * 2 ^ p = top * 2 ^ n -/
theorem plainZ_val : ∀ (t : Int) (n : Nat), (plainZ t n).1 * 2 ^ n = t * 2 ^ (plainZ t n).2.toNat
  | t, 0 => by simp [plainZ]
  | t, n + 1 => by
    by_cases h : t % 2 = 0
    · rw [plainZ_even h]
      have ih := plainZ_val (t / 2) n
      have e : t = 2 * (t / 2) := by omega
      rw [Int.pow_succ, ← Int.mul_assoc, ih]
      generalize (plainZ (t / 2) n).2.toNat = k
      generalize t / 2 = u at e
      rw [e, Int.mul_comm (u * 2 ^ k) 2, Int.mul_assoc]
    · rw [plainZ_odd h]; rfl
/-- one plain form a number -/
theorem plain_one {t u : Int} {p q : Nat} (ht : p = 0 ∨ ¬ t % 2 = 0) (hu : q = 0 ∨ ¬ u % 2 = 0) (e : t * 2 ^ q = u * 2 ^ p) : t = u ∧ p = q := by
  have key : ∀ {t u : Int} {p q : Nat}, (q = 0 ∨ ¬ u % 2 = 0) → t * 2 ^ q = u * 2 ^ p → ¬ p < q := by
    intro t u p q hu e h
    have e1 : q = (q - p - 1) + 1 + p := by omega
    rw [e1, Int.pow_add, ← Int.mul_assoc] at e
    have e2 := Int.eq_of_mul_eq_mul_right (Int.ne_of_gt (Int.pow_pos (by decide))) e
    rw [Int.pow_succ, ← Int.mul_assoc] at e2
    omega
  have h1 := key hu e
  have h2 := key ht e.symm
  have h3 : p = q := by omega
  subst h3
  exact ⟨Int.eq_of_mul_eq_mul_right (Int.ne_of_gt (Int.pow_pos (by decide))) e, rfl⟩
/-- two numbers by any of their forms -/
theorem scale (a c : Int) (b d : Nat) : ∃ S : Int, 0 < S ∧ ∃ S' : Int, 0 < S' ∧ (plainZ a b).1 * 2 ^ (plainZ c d).2.toNat * S = a * 2 ^ d * S' ∧ (plainZ c d).1 * 2 ^ (plainZ a b).2.toNat * S = c * 2 ^ b * S' := by
  have v1 := plainZ_val a b
  have v2 := plainZ_val c d
  generalize plainZ a b = x at *
  generalize plainZ c d = y at *
  refine ⟨2 ^ b * 2 ^ d, Int.mul_pos (Int.pow_pos (by decide)) (Int.pow_pos (by decide)), 2 ^ x.2.toNat * 2 ^ y.2.toNat, Int.mul_pos (Int.pow_pos (by decide)) (Int.pow_pos (by decide)), ?_, ?_⟩
  · generalize (2 : Int) ^ y.2.toNat = Y at *
    generalize (2 : Int) ^ x.2.toNat = X at *
    generalize (2 : Int) ^ b = B at *
    generalize (2 : Int) ^ d = D at *
    have : x.1 * Y * (B * D) = (x.1 * B) * (Y * D) := by ac_rfl
    rw [this, v1]; ac_rfl
  · generalize (2 : Int) ^ y.2.toNat = Y at *
    generalize (2 : Int) ^ x.2.toNat = X at *
    generalize (2 : Int) ^ b = B at *
    generalize (2 : Int) ^ d = D at *
    have : y.1 * X * (B * D) = (y.1 * D) * (X * B) := by ac_rfl
    rw [this, v2]; ac_rfl
theorem lt_forms (a c : Int) (b d : Nat) : ((plainZ a b).1 * 2 ^ (plainZ c d).2.toNat < (plainZ c d).1 * 2 ^ (plainZ a b).2.toNat) ↔ (a * 2 ^ d < c * 2 ^ b) := by
  obtain ⟨S, hS, S', hS', e1, e2⟩ := scale a c b d
  constructor
  · intro h
    have h1 := Int.mul_lt_mul_of_pos_right h hS
    rw [e1, e2] at h1
    exact Int.lt_of_mul_lt_mul_right h1 (Int.le_of_lt hS')
  · intro h
    have h1 := Int.mul_lt_mul_of_pos_right h hS'
    rw [← e1, ← e2] at h1
    exact Int.lt_of_mul_lt_mul_right h1 (Int.le_of_lt hS)
theorem eq_forms (a c : Int) (b d : Nat) : ((plainZ a b).1 = (plainZ c d).1 ∧ (plainZ a b).2 = (plainZ c d).2) ↔ (a * 2 ^ d = c * 2 ^ b) := by
  obtain ⟨S, hS, S', hS', e1, e2⟩ := scale a c b d
  have w1 := plainZ_le a b
  have w2 := plainZ_le c d
  constructor
  · rintro ⟨h1, h2⟩
    have h3 : (plainZ a b).1 * 2 ^ (plainZ c d).2.toNat * S = (plainZ c d).1 * 2 ^ (plainZ a b).2.toNat * S := by rw [h1, h2]
    rw [e1, e2] at h3
    exact Int.eq_of_mul_eq_mul_right (Int.ne_of_gt hS') h3
  · intro h
    rw [h, ← e2] at e1
    have h1 := Int.eq_of_mul_eq_mul_right (Int.ne_of_gt hS) e1
    have p1 := plainZ_plain a b
    have p2 := plainZ_plain c d
    have r := plain_one (p := (plainZ a b).2.toNat) (q := (plainZ c d).2.toNat) (by omega) (by omega) h1
    exact ⟨r.1, by omega⟩
theorem bitAnd_one (x : Int) : Builtin.bitAnd x 1 = x % 2 := by
  exact PyProof.Rows.bitAnd_m1 x
end Mine
namespace Mine
open PySem PySem.Spec PyProof.Rows L2
open Evl (Ex)
/-- what of the class Dyadic's text is needed -/
structure FDyadic (K : PySem.W.Frag) : Prop where
  cl : Cls K (He.ga K "Dyadic")
  nt : NoAttr K (He.ga K "Dyadic") "_top"
  np : NoAttr K (He.ga K "Dyadic") "_power"
theorem ktp : ¬ (("_top" : Str) = "_power") := by decide +kernel
/-- its attributes -/
def dfs (t p : Int) : List (Str × V) := putF "_power" (.int p) (putF "_top" (.int t) [])
theorem dfs_top (t p : Int) : (dfs t p).lookup ("_top" : Str) = some (.int t) := by
  unfold dfs
  rw [lookup_putF, if_neg ktp, lookup_putF, if_pos rfl]
theorem dfs_power (t p : Int) : (dfs t p).lookup ("_power" : Str) = some (.int p) := by
  unfold dfs
  rw [lookup_putF, if_pos rfl]
theorem dfs_no (t p : Int) {m : Str} (h1 : ¬ m = "_power") (h2 : ¬ m = "_top") : (dfs t p).lookup m = none := by
  unfold dfs
  rw [lookup_putF, if_neg h1, lookup_putF, if_neg h2]
  all_goals rfl
theorem dfs_len (t p : Int) : (dfs t p).length < 1000 := by
  have h := length_putF "_power" (V.int p) (putF "_top" (V.int t) [])
  have h2 := length_putF "_top" (V.int t) []
  simp only [List.length_nil] at h2
  unfold dfs; omega
def okTop (a b : Int) : Prop := (-1000000000000 ≤ a ∧ a ≤ 1000000000000) ∧ 0 ≤ b ∧ b ≤ 40
/-- a Dyadic stands at a: its plain form's top and power -/
def DyAt (K : PySem.W.Frag) (H : Hp) (a : Addr) (t p : Int) : Prop := ∃ dx, H a = some (.ins (He.ga K "Dyadic") dx (dfs t p))
theorem DyAt.ex {K : PySem.W.Frag} {H H' : Hp} {a : Addr} {t p : Int} (h : DyAt K H a t p) (e : Ex H H') : DyAt K H' a t p :=
  let ⟨dx, q⟩ := h
  ⟨dx, e _ _ q⟩
theorem dy_inj {K : PySem.W.Frag} {H : Hp} {a : Addr} {t p t' p' : Int} (h : DyAt K H a t p) (h' : DyAt K H a t' p') : t = t' ∧ p = p' := by
  obtain ⟨dx, h⟩ := h
  obtain ⟨dx', h'⟩ := h'
  have e := Option.some.inj (h.symm.trans h')
  injection e with _ _ e
  have e1 := congrArg (fun l => List.lookup ("_top" : Str) l) e
  have e2 := congrArg (fun l => List.lookup ("_power" : Str) l) e
  simp only [dfs_top, dfs_power, Option.some.injEq, V.int.injEq] at e1 e2
  exact ⟨e1, e2⟩
theorem dy_tr {K : PySem.W.Frag} {H H' : Hp} {a : Addr} {t p : Int} (e : Ex H H') (h : DyAt K H a t p) : DyAt K H' a t p := h.ex e
theorem dy_prop {K : PySem.W.Frag} {H : Hp} {a : Addr} {t p : Int} {P : Addr → Prop} (h : DyAt K H a t p) (q : P a) :
    ∃ b dx fs, V.ref a = V.ref b ∧ H b = some (HO.ins (He.ga K "Dyadic") dx fs) ∧ P b :=
  let ⟨dx, e⟩ := h
  ⟨a, dx, _, rfl, e, q⟩
theorem dy_isC {K : PySem.W.Frag} {H : Hp} {Q : VK} {a : Addr} {t p : Int} (h : DyAt K H a t p) (q : Q (.bl true) H) : rIsC (He.ga K "Dyadic") [.ref a, .ref (He.ga K "Dyadic")] H Q :=
  let ⟨dx, e⟩ := h
  ⟨a, dx, _, rfl, e, q⟩
/-- x.m(..): what a method call asks of a Dyadic -/
theorem dy_meth {K : PySem.W.Frag} {H : Hp} {a : Addr} {t p : Int} {m : Str} {P : Prop} (h : DyAt K H a t p) (h1 : ¬ m = "_power") (h2 : ¬ m = "_top") (q : P) :
    ∃ b dx fs, V.ref a = V.ref b ∧ H b = some (HO.ins (He.ga K "Dyadic") dx fs) ∧ fs.lookup m = none ∧ P :=
  let ⟨dx, e⟩ := h
  ⟨a, dx, _, rfl, e, dfs_no _ _ h1 h2, q⟩
end Mine
namespace Mine
open PySem PySem.Spec PyProof.Rows L2
/-! dicts whose keys are pairs of tuples of ints and whose values are ints -/
abbrev Pr := List Int × List Int
def keyOf (p : Pr) : NestedKey := .tup [.tup (p.1.map .num), .tup (p.2.map .num)]
theorem nums_inj : ∀ {a b : List Int}, a.map NestedKey.num = b.map NestedKey.num → a = b
  | [], [], _ => rfl
  | [], _ :: _, e => by simp at e
  | _ :: _, [], e => by simp at e
  | x :: xs, y :: ys, e => by
    rw [List.map_cons, List.map_cons] at e
    injection e with e1 e2
    injection e1 with e1
    rw [e1, nums_inj e2]
theorem keyOf_inj {p q : Pr} (h : keyOf p = keyOf q) : p = q := by
  unfold keyOf at h
  injection h with h
  injection h with h1 h2
  injection h2 with h2 _
  injection h1 with h1
  injection h2 with h2
  exact Prod.ext (nums_inj h1) (nums_inj h2)
theorem nums_flat : ∀ l : List Int, NestedKey.depthAll (l.map .num) = 0
  | [] => rfl
  | x :: l => by
    rw [List.map_cons, NestedKey.depthAll, nums_flat l]
    rfl
theorem keyOf_deep (p : Pr) : (keyOf p).depth ≤ 8 := by
  unfold keyOf
  simp only [NestedKey.depth, NestedKey.depthAll, nums_flat]
  decide
/-- the tuple at b is the pair p of tuples of ints -/
def PrT (H : Hp) (b : Addr) (p : Pr) : Prop := ∃ c d, H b = some (.tup [.ref c, .ref d]) ∧ H c = some (.tup (p.1.map V.int)) ∧ H d = some (.tup (p.2.map V.int))
theorem PrT.ex {H H' : Hp} {b : Addr} {p : Pr} (t : PrT H b p) (k : ∀ c xs, H c = some (.tup xs) → H' c = some (.tup xs)) : PrT H' b p :=
  let ⟨c, d, h1, h2, h3⟩ := t
  ⟨c, d, k _ _ h1, k _ _ h2, k _ _ h3⟩
theorem nested_ints {h : Heap} : ∀ {ns : List Int} {us : List Value}, Vals (ns.map V.int) us → NestedAll h (ns.map .num) us
  | [], _, r => by rw [List.map_nil] at r; cases r; exact .nil
  | n :: ns, _, r => by
    rw [List.map_cons] at r
    cases r with
    | cons h t =>
      obtain ⟨tk, rfl⟩ := h
      exact .cons (.int n tk) (nested_ints t)
section
variable {P : Program} {w : World} {H : Hp} {h : Heap} {a b : Addr} {p : Pr}
theorem nested_tup {ns : List Int} (ok : HOk P w H h) (e : H a = some (.tup (ns.map V.int))) : NestedIs h (.tup (ns.map .num)) (.ref a) := by
  obtain ⟨_, its, r, o, h1, h2, n, h3⟩ := (show ObjOk P w H h a (.tup (ns.map V.int)) from ok a _ e)
  exact .tup h1 h2 h3 (by simpa using nested_ints r)
theorem PrT.key (t : PrT H b p) (ok : HOk P w H h) : (nestedKind P w).is h (keyOf p) b := by
  obtain ⟨c, d, e, ec, ed⟩ := t
  refine ⟨?_, keyOf_deep p⟩
  obtain ⟨_, its, r, o, h1, h2, n, h3⟩ := (show ObjOk P w H h b (.tup [.ref c, .ref d]) from ok b _ e)
  cases r with
  | cons r1 t1 =>
    cases t1 with
    | cons r2 t2 =>
      cases t2
      cases r1
      cases r2
      exact .tup h1 h2 h3 (.cons (nested_tup ok ec) (.cons (nested_tup ok ed) .nil))
end
abbrev Ent := Pr × Addr × Int
abbrev NP : List Ent → List (NestedKey × Addr × Value) → Prop := Paired fun p q => q.1 = keyOf p.1 ∧ q.2.1 = p.2.1 ∧ ∃ t, q.2.2 = Value.int p.2.2 t
def look (kvs : List Ent) (p : Pr) : Option Int := (kvs.find? fun e => decide (e.1 = p)).map (·.2.2)
theorem NP.look {kvs : List Ent} {xs : List (NestedKey × Addr × Value)} (r : NP kvs xs) (p : Pr) : RelO ((look kvs p).map V.int) ((atKey xs (keyOf p)).map (·.2)) := by
  induction r with
  | nil => exact True.intro
  | @cons e q es qs h t ih =>
    obtain ⟨h1, h2, tk, h3⟩ := h
    by_cases z : e.1 = p
    · have b : atKey (q :: qs) (keyOf p) = some q.2 := by simp [atKey, List.find?_cons, h1, z]
      have c : Mine.look (e :: es) p = some e.2.2 := by simp [Mine.look, List.find?_cons, z]
      rw [b, c]
      exact ⟨tk, h3⟩
    · have z' : ¬ q.1 = keyOf p := fun y => z (keyOf_inj (h1.symm.trans y))
      have b : atKey (q :: qs) (keyOf p) = atKey qs (keyOf p) := by simp [atKey, List.find?_cons, z']
      have c : Mine.look (e :: es) p = Mine.look es p := by simp [Mine.look, List.find?_cons, z]
      rw [b, c]
      exact ih
theorem NP.none_of {kvs : List Ent} {xs : List (NestedKey × Addr × Value)} (r : NP kvs xs) {p : Pr} (h : Mine.look kvs p = none) : atKey xs (keyOf p) = none := by
  have z := NP.look r p
  rw [h] at z
  cases q : atKey xs (keyOf p) with
  | none => rfl
  | some y => rw [q] at z; exact z.elim
theorem NP.len {kvs : List Ent} {xs : List (NestedKey × Addr × Value)} (r : NP kvs xs) : kvs.length = xs.length := Paired.length r
/-- what stands at a -/
def NdR (P : Program) (w : World) (h : Heap) (a : Addr) (kvs : List Ent) : Prop := kvs.length ≤ sizeLine ∧ (a == sysModules) = false ∧ ∃ xs : List (NestedKey × Addr × Value), NP kvs xs ∧
  ∃ o es ep, h.get? a = some o ∧ o.ExactDict ∧ o.data = .dict es ep ∧ es.toList = xs.map (entryOfKey (nestedKind P w)) ∧ (xs.map (·.1)).Nodup
def NdO (P : Program) (w : World) (a : Addr) (kvs : List Ent) : HO := .ext fun h => NdR P w h a kvs
def Keys (H : Hp) (kvs : List Ent) : Prop := ∀ e ∈ kvs, PrT H e.2.1 e.1
theorem NP.keys {P : Program} {w : World} {H : Hp} {h : Heap} (ok : HOk P w H h) {kvs : List Ent} {xs : List (NestedKey × Addr × Value)} (r : NP kvs xs) : (∀ e ∈ kvs, PrT H e.2.1 e.1) → ∀ x ∈ xs, (nestedKind P w).is h x.1 x.2.1 := by
  induction r with
  | nil => intro _ x hx; exact nomatch hx
  | @cons e q es qs hq t ih =>
    intro k x hx
    rcases List.mem_cons.mp hx with z | hx
    · subst z
      obtain ⟨h1, h2, _⟩ := hq
      rw [h1, h2]
      exact (k e List.mem_cons_self).key ok
    · exact ih (fun e' m => k e' (List.mem_cons_of_mem _ m)) x hx
theorem nd_at {P : Program} {w : World} {H : Hp} {h : Heap} {a : Addr} {kvs : List Ent} (ok : HOk P w H h) (e : H a = some (NdO P w a kvs)) (k : Keys H kvs) :
    kvs.length ≤ sizeLine ∧ (a == sysModules) = false ∧ ∃ xs, NP kvs xs ∧ h.DictOfH (nestedKind P w) a xs := by
  obtain ⟨z, y, xs, r, o, es, ep, h1, h2, h3, h4, h5⟩ := (ok a _ e).1
  exact ⟨z, y, xs, r, o, es, ep, h1, h2, h3, h4, NP.keys ok r k, h5⟩
theorem nd_new {P : Program} {w : World} {H : Hp} {h : Heap} {a : Addr} {kvs : List Ent} (R : NdR P w h a kvs) : ObjOk P w H h a (NdO P w a kvs) := by
  have ⟨_, _, _, _, o, _, _, ho, _⟩ := R
  refine ⟨R, ⟨o, ho⟩, fun h1 h2 p k => ?_⟩
  obtain ⟨z, y, xs, r, o, es, ep, g1, g⟩ := p
  exact ⟨z, y, xs, r, o, es, ep, k _ g1, g⟩
section
variable {X : Cx} {pins : List (Addr × Obj)} {σ : L2.St} {H : Hp} {s : Shared} {a b : Addr} {kvs : List Ent} {p : Pr} {A : Around} {E : Value → Shared → Prop}
theorem n_get {v : Int} {Q : Value → Shared → Prop} (hu : A.units + 9 < cLine) (I : Inv X pins σ H s) (e : H a = some (NdO X.prog X.w a kvs)) (k : Keys H kvs) (kb : PrT H b p) (l : look kvs p = some v)
    (h : ∀ w' s', Inv X pins σ H s' → RelV (.int v) w' → Q w' s') : wpAny (model X.prog X.w) A (getItem (.ref a) (.ref b)) Q E s := by
  obtain ⟨z, hd, xs, r, dd⟩ := nd_at I.hok e k
  have rl := NP.look r p
  rw [l] at rl
  cases q : atKey xs (keyOf p) with
  | none => rw [q] at rl; exact rl.elim
  | some y =>
    rw [q] at rl
    exact wpAny_getItem_heap (knd := nestedKind X.prog X.w) (show A.in1.units + 8 < cLine by rw [Around.in1_units]; omega) (kb.key I.hok) dd q (h y.2 _ (I.tok _) rl)
theorem n_notin {Q : Value → Shared → Prop} (hu : A.units + 9 < cLine) (I : Inv X pins σ H s) (e : H a = some (NdO X.prog X.w a kvs)) (k : Keys H kvs) (kb : PrT H b p)
    (h : ∀ s', Inv X pins σ H s' → Q (.bool (!(look kvs p).isSome)) s') : wpAny (model X.prog X.w) A (compareOp .NotIn (.ref b) (.ref a)) Q E s := by
  obtain ⟨z, hd, xs, r, dd⟩ := nd_at I.hok e k
  refine wpAny_notIn_heap (knd := nestedKind X.prog X.w) (show A.in1.units + 8 < cLine by rw [Around.in1_units]; omega) (kb.key I.hok) hd dd ?_
  have rl := NP.look r p
  have e2 : (atKey xs (keyOf p)).isSome = (look kvs p).isSome := by
    cases q : atKey xs (keyOf p) with
    | none =>
      cases q2 : look kvs p with
      | none => rfl
      | some v => rw [q, q2] at rl; exact rl.elim
    | some y =>
      cases q2 : look kvs p with
      | none => rw [q, q2] at rl; exact rl.elim
      | some v => rfl
  rw [e2]
  exact h _ (I.tok _)
theorem n_put {v : Int} {u : Value} {Q : Unit → Shared → Prop} (hu : A.units + 9 < cLine) (I : Inv X pins σ H s) (e : H a = some (NdO X.prog X.w a kvs)) (k : Keys H kvs) (kb : PrT H b p) (l : look kvs p = none) (hl : kvs.length < sizeLine) (ru : RelV (.int v) u)
    (h : ∀ s', Inv X pins σ (upd H a (NdO X.prog X.w a (kvs ++ [(p, b, v)]))) s' → Q () s') : wpAny (model X.prog X.w) A (setItem (.ref a) (.ref b) u) Q E s := by
  obtain ⟨z, hd, xs, r, dd⟩ := nd_at I.hok e k
  have hz : xs.length ≤ sizeLine := by rw [← NP.len r]; exact z
  have hn := NP.none_of r l
  refine wpAny_setItem_heap (hsz := hz) (knd := nestedKind X.prog X.w) (show A.in1.units + 8 < cLine by rw [Around.in1_units]; omega) (kb.key I.hok) dd fun h' dd' hs => h _ ?_
  rw [storedH_new hn] at dd'
  obtain ⟨q, es, ep, hq, h2, h3, h4, _, h5⟩ := dd'
  refine I.write (x := a) (e := a) (by rw [e]; exact True.intro) (.inl rfl) (fun c u hc y => (hs.2 c hc).trans y) ⟨q, hq⟩ (nd_new ⟨?_, hd, _, Paired.snoc r ⟨rfl, rfl, (show ∃ tk, u = Value.int v tk from ru)⟩, q, es, ep, hq, h2, h3, h4, h5⟩)
  rw [List.length_append, List.length_singleton]
  omega
end
/-! readings and rules -/
/-- d[k] -/
def tNGet (P : Program) (w : World) (td ty : TE) : TE := fun σ H Q => td σ H fun x H1 => ty σ H1 fun y H2 => ∃ a b kvs p v, x = V.ref a ∧ y = V.ref b ∧ H2 a = some (NdO P w a kvs) ∧ Keys H2 kvs ∧ PrT H2 b p ∧ look kvs p = some v ∧ Q (.int v) H2
/-- k not in d -/
def tNNot (P : Program) (w : World) (ty td : TE) : TE := fun σ H Q => ty σ H fun y H1 => td σ H1 fun x H2 => ∃ a b kvs p, x = V.ref a ∧ y = V.ref b ∧ H2 a = some (NdO P w a kvs) ∧ Keys H2 kvs ∧ PrT H2 b p ∧ Q (.bl (!(look kvs p).isSome)) H2
/-- d[k] = v, a new key -/
def sNPut (P : Program) (w : World) (td ty tv : TE) : TS := fun D σ H => tv σ H fun z H1 => td σ H1 fun x H2 => ty σ H2 fun y H3 => ∃ a b kvs p v, z = V.int v ∧ x = V.ref a ∧ y = V.ref b ∧ H3 a = some (NdO P w a kvs) ∧ Keys H3 kvs ∧ PrT H3 b p ∧ look kvs p = none ∧
  kvs.length < sizeLine ∧ D.nx σ (upd H3 a (NdO P w a (kvs ++ [(p, b, v)])))
/-- {k: v} -/
def tNDisp (P : Program) (w : World) (tk tv : TE) : TE := fun σ H Q => ∀ d, H d = none → tk σ (upd H d (NdO P w d [])) fun y H1 => tv σ H1 fun z H2 => ∃ b p v, y = V.ref b ∧ z = V.int v ∧ H2 d = some (NdO P w d []) ∧ PrT H2 b p ∧
  Q (.ref d) (upd H2 d (NdO P w d [(p, b, v)]))
section
variable {X : Cx} {o i e value : Expr} {pos pos' : Pos} {td ty tv tk : TE}
theorem nd_type {P : Program} {w : World} {s : Shared} {H : Hp} {a : Addr} {kvs : List Ent} (ok : HOk P w H s.heap) (e : H a = some (NdO P w a kvs)) : s.TypeIs (.ref a) "dict" := by
  obtain ⟨_, _, _, _, o, es, ep, h1, h2, _⟩ := (ok a _ e).1
  exact ⟨o, h1, h2.1⟩
theorem pe_nget (hu : X.A.units + 9 < cLine) (ho : PE X o td) (hi : PE X i ty) (hs : NoSl i) : PE X (.Subscript o i pos) (tNGet X.prog X.w td ty) := by
  refine ⟨fun pins s σ H Q I h => ?_⟩
  refine subD_of PySem.F.slot_dict_getitem.lookup hs (thn (ho.run pins s σ H _ I h) fun u s1 z1 => ?_)
  obtain ⟨x, H1, I1, rx, q1⟩ := z1
  refine thn (hi.run pins s1 σ H1 _ I1 q1) fun iv s2 z2 => ?_
  obtain ⟨y, H2, I2, ry, a, b, kvs, p, v, ex, ey, g, kk, kb, l, q2⟩ := z2
  subst ex ey
  obtain rfl : u = Value.ref a := rx
  obtain rfl : iv = Value.ref b := ry
  exact ⟨nd_type I2.hok g, n_get hu I2 g kk kb l fun w' s3 I3 rw' => ⟨.int v, H2, I3, rw', q2⟩⟩
theorem pc_nnot (hu : X.A.units + 9 < cLine) (hi : PE X i ty) (ho : PE X o td) : PC X .NotIn i o (tNNot X.prog X.w ty td) := by
  refine ⟨fun pins s σ H Q I h => ?_⟩
  refine thn (hi.run pins s σ H _ I h) fun iv s1 z1 => ?_
  obtain ⟨y, H1, I1, ry, q1⟩ := z1
  refine thn (ho.run pins s1 σ H1 _ I1 q1) fun u s2 z2 => ?_
  obtain ⟨x, H2, I2, rx, a, b, kvs, p, ex, ey, g, kk, kb, q2⟩ := z2
  subst ex ey
  obtain rfl : u = Value.ref a := rx
  obtain rfl : iv = Value.ref b := ry
  exact n_notin hu I2 g kk kb fun s3 I3 => ⟨.bl (!(look kvs p).isSome), H2, I3, rfl, q2⟩
theorem ps_nput (hu : X.A.units + 9 < cLine) (ho : PE X o td) (hi : PE X i ty) (hv : PE X value tv) (hs : swapsWith value (some (.Subscript o i pos')) pos.line X.env = pure false) :
    PS X (.Assign [.Subscript o i pos'] value pos) (sNPut X.prog X.w td ty tv) := by
  refine ⟨fun pins s σ H D I h => ?_⟩
  refine wpAny_Assign_Subscript (thn (hv.run pins s σ H _ I h) fun r s1 z1 => ?_) hs
  obtain ⟨z, H1, I1, rv, q1⟩ := z1
  refine thn (ho.run pins s1 σ H1 _ I1 q1) fun u s2 z2 => ?_
  obtain ⟨x, H2, I2, rx, q2⟩ := z2
  refine thn (hi.run pins s2 σ H2 _ I2 q2) fun iv s3 z3 => ?_
  obtain ⟨y, H3, I3, ry, a, b, kvs, p, v, ez, ex, ey, g, kk, kb, l, hl, q3⟩ := z3
  subst ex ey ez
  obtain rfl : u = Value.ref a := rx
  obtain rfl : iv = Value.ref b := ry
  exact n_put hu I3 g kk kb l hl rv fun s4 I4 => ⟨σ, _, I4, q3⟩
theorem pe_ndisp {k v : Expr} (hu : X.A.units + 9 < cLine) (hk : PE X k tk) (hv : PE X v tv) : PE X (.Dict [some k] [v] pos) (tNDisp X.prog X.w tk tv) := by
  refine ⟨fun pins s σ H Q I h => ?_⟩
  have hn := I.hok.fresh (Nat.le_refl s.heap.objs.size)
  have hb := I.big
  have R0 : NdR X.prog X.w (s.heap.push { cls := .type "dict", data := .dict #[] }) s.heap.objs.size [] :=
    ⟨Nat.zero_le _, beq_eq_false_iff_ne.mpr (Ne.symm (Nat.ne_of_lt hb)), [], .nil, _, #[], 0, Heap.get?_push_size _ rfl, ⟨rfl, rfl, rfl⟩, rfl, rfl, List.nodup_nil⟩
  have I1 := I.laid (a := s.heap.objs.size) (o := NdO X.prog X.w s.heap.objs.size []) (h' := s.heap.push { cls := .type "dict", data := .dict #[] }) (t' := s.toks) (fun _ _ q => Heap.get?_push_of_some _ q) (Nat.le_refl _) (nd_new R0)
  refine wpAny_Dict_any rfl rfl (by simp) (show 1 ≤ 15 by decide) ?_
  refine pairTrees_cons_walk (thn (hk.run pins _ σ _ _ I1 (h _ hn)) fun u s1 z1 => ?_)
  obtain ⟨y, H1, I2, ry, q1⟩ := z1
  refine thn (hv.run pins s1 σ H1 _ I2 q1) fun u2 s2 z2 => ?_
  obtain ⟨z, H2, I3, rz, b, p, n, ey, ez, g, kb, q2⟩ := z2
  subst ey ez
  obtain rfl : u = Value.ref b := ry
  refine pairTrees_nil_walk ?_
  unfold storeAll
  rw [List.forIn_cons]
  obtain ⟨zz, hd, xs, r, dd⟩ := nd_at I3.hok g (fun e m => nomatch m)
  cases r
  refine wpAny_bind (wpAny_bind (wpAny_dictSet_heap (hsz := Nat.zero_le _) (knd := nestedKind X.prog X.w) (show X.A.units + 8 < cLine by omega) (kb.key I3.hok) dd fun h' dd' hs => ?_))
  refine wpAny_pure ?_
  dsimp only
  rw [List.forIn_nil]
  refine wpAny_pure ⟨.ref s.heap.objs.size, _, ?_, rfl, q2⟩
  rw [storedH_new rfl] at dd'
  obtain ⟨q, es, ep, hq, h2, h3, h4, _, h5⟩ := dd'
  exact I3.write (x := s.heap.objs.size) (e := s.heap.objs.size) (by rw [g]; exact True.intro) (.inl rfl) (fun c u hc y => (hs.2 c hc).trans y) ⟨q, hq⟩ (nd_new ⟨(show 1 ≤ sizeLine by decide), hd, _, .cons ⟨rfl, rfl, (show ∃ tk, u2 = Value.int n tk from rz)⟩ .nil, q, es, ep, hq, h2, h3, h4, h5⟩)
end
end Mine
namespace Mine
open PySem PySem.Spec PyProof.Rows L2
open Sem (wp)
/-! set(xs) of a list of isI -/
abbrev emO (w : World) : Obj := { cls := .type "set", dict := none, data := .set #[] 0 (.fresh 0 0 (!w.params.followText "set-order")) }
section
variable {P : Program} {w : World} {A : Around} {E : Value → Shared → Prop} {s : Shared}
/-- the new set S holds the isI of ns, all else is kept -/
structure Filled (w : World) (h h' : Heap) (S : Addr) (ns : List Int) (c : Nat) : Prop where
  set : SetR w h' S (fun j => decide (j ∈ ns)) c
  few : c ≤ ns.length
  old : ∀ b o, h.get? b = some o → h'.get? b = some o
set_option maxHeartbeats 3200000 in
theorem set_of_ints {l : Addr} {xs : Array Value} (ns : List Int) {Q : Value → Shared → Prop} (calm : A.handled = none) (at_l : s.heap.IsList l xs) (isI : IntsAre xs.toList ns) (room : ns.length + 1 < scanBound)
    (q : ∀ (g : Heap) (tk c : Nat), Filled w s.heap g s.heap.objs.size ns c → Q (.ref s.heap.objs.size) { s with heap := g, toks := tk }) : wpAny (model P w) A (call (.type "set") [.ref l]) Q E s := by
  have many : xs.size = ns.length := by rw [← IntsAre.length isI, Array.length_toList]
  let h1 : Heap := s.heap.push (emO w)
  have hd : h1 = s.heap.push (emO w) := rfl
  have zS : h1.get? s.heap.objs.size = some (emO w) := Heap.get?_push_size _ rfl
  have sz1 : h1.objs.size = s.heap.objs.size + 1 := Heap.size_push ..
  have lt_l : l < s.heap.objs.size := let ⟨o, ho, _⟩ := at_l; Heap.lt_size ho
  have ty1 : Shared.TypeIs { s with heap := h1 } (.ref s.heap.objs.size) "set" := ⟨_, zS, rfl⟩
  have ls1 : h1.IsList l xs := at_l.push _
  clear_value h1
  obtain ⟨c0, t0, m0⟩ := F.called_set.mro
  have m1 := F.called_set.made; have m2 := F.called_set.sub; have m3 := F.called_set.notType; have m4 := F.called_set.canCreate
  have m5 := F.typeCall_set_1 (.ref l); have m6 := F.called_set.init.lookup; have m7 := F.called_set.init.bind (.ref s.heap.objs.size)
  refine wpAny_call (codeAny_of_tree (show wpAny _ _ (callAny (.type "set") _) _ _ _ from ?_))
  refine wpAny_pure ⟨Code.quiet_builtin _ (by decide +kernel), codeAny_builtin F.entry_type_call ?_⟩
  rw [Around.under_plain (weight_type_call_type "set" [.ref l] []) rfl]
  repeat (any_goals (first | assumption | wp_step))
  refine codeAny_mono (code_set_led1 (.ref l) (E := E) (Q₁ := fun v s' => v = .ref s.heap.objs.size ∧ s' = { s with heap := h1 }) ⟨rfl, by rw [hd]⟩) fun r s' hr => ?_
  rcases r with e | fl
  · exact hr
  cases fl with
  | ret v =>
    obtain ⟨rfl, rfl⟩ := hr
    repeat (any_goals (first | assumption | wp_step))
    refine codeAny_mono (codeAny_call_builtin (R := wants (fun v s' => v = .none ∧ ∃ g tk c, s' = { s with heap := g, toks := tk } ∧ Filled w s.heap g s.heap.objs.size ns c) E) F.called_set.init.plain F.entry_set_init (check_set_init_1 ty1 ?_)) fun r s' hr => ?_
    · obtain ⟨⟨oc, od, oa, os⟩, got, e1, n1, e2⟩ := at_l
      simp only at e1 e2
      subst e1; subst e2
      have got1 : h1.get? l = some { cls := .type "list", dict := od, data := .seq xs n1, slots := os } := by rw [hd]; exact Heap.get?_push_of_some _ got
      have k1 := F.sub_list_set; have k2 := F.sub_list_frozenset
      have k3 : (Value.type "list" == Value.type "dict") = false := by decide
      unfold Builtin.«set.__init__» noKeywords Builtin.Frozenset.updateFrom
      generalize hit : pyIter = IT
      wp_walk
      subst hit
      refine wpAny_pyIter_list ls1 (wpAny_bind (wpAny_runValue ?_))
      have calm3 : A.in1.in1.in1.handled = none := by simp [calm]
      have apart : l ≠ h1.objs.size := by rw [sz1]; exact Nat.ne_of_lt (Nat.lt_succ_of_lt lt_l)
      have notin : s.heap.objs.size ∉ [h1.objs.size, l] := by
        rw [sz1]
        intro m
        rcases List.mem_cons.mp m with e | m
        · exact absurd e (Nat.ne_of_lt (Nat.lt_succ_self _))
        · rw [List.mem_singleton] at m
          exact absurd lt_l (by rw [← m]; exact Nat.lt_irrefl _)
      refine set_update_ints ((Walks.list calm3 _ l apart xs).toS) s.heap.objs.size notin ns many room (fun i v hv => ?_) xs.size 0 _ (by omega) (Nat.zero_le _) ⟨⟨_, Heap.get?_push_size _ rfl, rfl, rfl⟩, ls1.push _⟩ ⟨0, Nat.le_refl 0, setR_new_at (Heap.get?_push_of_some _ zS)⟩ fun s' c moved le R => ?_
      · have hi : i < ns.length := by rw [← many]; exact (Array.getElem?_eq_some_iff.mp hv).1
        obtain ⟨t, e⟩ := PyProof.Rows.IntsAre.int_at isI i v (by rw [Array.getElem?_toList]; exact hv)
        exact ⟨ns[i], t, List.getElem?_eq_getElem hi, by rw [e, List.getD_eq_getElem?_getD, List.getElem?_eq_getElem hi]; rfl⟩
      · obtain ⟨g, g2, d2, tk, o2⟩ := s'
        obtain rfl : g2 = s.gens := moved.gens
        obtain rfl : d2 = s.drawn := moved.drawn
        obtain rfl : o2 = s.os := moved.os
        refine (show wpAny _ _ _ _ _ _ from wpAny_pure (show wpAny _ _ (ret Value.none) _ _ _ from wpAny_pure ⟨rfl, g, tk, c, rfl, R, by rw [← many]; exact le, fun b o e => ?_⟩))
        have lt := Heap.lt_size e
        refine moved.heap b o (fun m => ?_) (Heap.get?_push_of_some _ (by rw [hd]; exact Heap.get?_push_of_some _ e))
        rcases List.mem_cons.mp m with z | m
        · exact absurd lt (by rw [z]; exact Nat.lt_irrefl _)
        · rw [List.mem_singleton, sz1] at m
          exact absurd lt (by rw [m]; exact Nat.not_lt_of_le (Nat.le_succ _))
    · rcases r with e | fl
      · exact hr
      cases fl with
      | ret v =>
        obtain ⟨rfl, g, tk, c, rfl, R⟩ := hr
        repeat (any_goals (first | assumption | wp_step))
        exact q g tk c R
      | _ => exact hr.elim
  | _ => exact hr.elim
end
section
variable {X : Cx}
/-- set(xs), xs a list of ints -/
def rSetL (K : PySem.W.Frag) (w : World) : List V → Hp → VK → Prop := fun vs H Q => ∃ (l : Addr) (ns : List Int), vs = [V.ref l] ∧ SqL K H l (ns.map V.int) ∧ ns.length + 1 < scanBound ∧
  ∀ (p : Addr) (c : Nat), H p = none → c ≤ ns.length → Q (.ref p) (upd H p (SetO w p (fun j => decide (j ∈ ns)) c))
theorem cr_setL (hc : X.calm = true) : CallR X (.type "set") (rSetL X.K X.w) := by
  intro pins s σ H vs us Q I r h
  obtain ⟨l, ns, rfl, hl, hb, q⟩ := h
  rw [Vals.ref1 r]
  obtain ⟨its, rv, ⟨ob, n, ho, h1, _, h2⟩, hlen⟩ := I.list hl
  refine set_of_ints ns (I.ok.hd hc) ⟨ob, ho, h1, n, h2⟩ (ints_of_vals (by simpa using rv)) hb fun g tk c f => ?_
  have hn := I.hok.fresh (Nat.le_refl s.heap.objs.size)
  exact ⟨.ref s.heap.objs.size, _, I.laid (a := s.heap.objs.size) (o := SetO X.w s.heap.objs.size (fun j => decide (j ∈ ns)) c) (t' := tk) f.old (Nat.le_refl _) (setO_new f.set), rfl, q _ c hn f.few⟩
end
end Mine
namespace Mine
open PySem PySem.Spec PyProof.Rows L2
open Evl (Ex)
/-! yards: what stands in the heap -/
structure FYard (K : PySem.W.Frag) : Prop where
  cl : Cls K (He.ga K "Yard")
  nl : NoAttr K (He.ga K "Yard") "_lefts"
  nr : NoAttr K (He.ga K "Yard") "_rights"
  nh : NoAttr K (He.ga K "Yard") "_heights"
  nn : NoAttr K (He.ga K "Yard") "_numbers"
  nt : NoAttr K (He.ga K "Yard") "_turned"
structure Foot where
  y : Addr
  dx : Addr
  l : Addr
  r : Addr
  h : Addr
  n : Addr
  t : Addr
theorem klr : ¬ (("_lefts" : Str) = "_rights") := by decide +kernel
theorem klh : ¬ (("_lefts" : Str) = "_heights") := by decide +kernel
theorem kln : ¬ (("_lefts" : Str) = "_numbers") := by decide +kernel
theorem klt : ¬ (("_lefts" : Str) = "_turned") := by decide +kernel
theorem krh : ¬ (("_rights" : Str) = "_heights") := by decide +kernel
theorem krn : ¬ (("_rights" : Str) = "_numbers") := by decide +kernel
theorem krt : ¬ (("_rights" : Str) = "_turned") := by decide +kernel
theorem khn : ¬ (("_heights" : Str) = "_numbers") := by decide +kernel
theorem kht : ¬ (("_heights" : Str) = "_turned") := by decide +kernel
theorem knt : ¬ (("_numbers" : Str) = "_turned") := by decide +kernel
def yfs (F : Foot) : List (Str × V) := putF "_turned" (.ref F.t) (putF "_numbers" (.ref F.n) (putF "_heights" (.ref F.h) (putF "_rights" (.ref F.r) (putF "_lefts" (.ref F.l) []))))
theorem yfs_l (F : Foot) : (yfs F).lookup ("_lefts" : Str) = some (.ref F.l) := by
  unfold yfs
  rw [lookup_putF, if_neg klt, lookup_putF, if_neg kln, lookup_putF, if_neg klh, lookup_putF, if_neg klr, lookup_putF, if_pos rfl]
theorem yfs_r (F : Foot) : (yfs F).lookup ("_rights" : Str) = some (.ref F.r) := by
  unfold yfs
  rw [lookup_putF, if_neg krt, lookup_putF, if_neg krn, lookup_putF, if_neg krh, lookup_putF, if_pos rfl]
theorem yfs_h (F : Foot) : (yfs F).lookup ("_heights" : Str) = some (.ref F.h) := by
  unfold yfs
  rw [lookup_putF, if_neg kht, lookup_putF, if_neg khn, lookup_putF, if_pos rfl]
theorem yfs_n (F : Foot) : (yfs F).lookup ("_numbers" : Str) = some (.ref F.n) := by
  unfold yfs
  rw [lookup_putF, if_neg knt, lookup_putF, if_pos rfl]
theorem yfs_t (F : Foot) : (yfs F).lookup ("_turned" : Str) = some (.ref F.t) := by
  unfold yfs
  rw [lookup_putF, if_pos rfl]
theorem yfs_no (F : Foot) {m : Str} (h1 : ¬ m = "_turned") (h2 : ¬ m = "_numbers") (h3 : ¬ m = "_heights") (h4 : ¬ m = "_rights") (h5 : ¬ m = "_lefts") : (yfs F).lookup m = none := by
  unfold yfs
  rw [lookup_putF, if_neg h1, lookup_putF, if_neg h2, lookup_putF, if_neg h3, lookup_putF, if_neg h4, lookup_putF, if_neg h5]
  rfl
/-- refs to tuples of ints -/
def Rows (H : Hp) (xs : List V) (gs : List (List Int)) : Prop := xs.length = gs.length ∧ ∀ (i : Nat) (g : List Int), gs[i]? = some g → ∃ a, xs[i]? = some (.ref a) ∧ H a = some (.tup (g.map V.int))
theorem Rows.ex {H H' : Hp} {xs : List V} {gs : List (List Int)} (r : Rows H xs gs) (k : ∀ c ys, H c = some (.tup ys) → H' c = some (.tup ys)) : Rows H' xs gs :=
  ⟨r.1, fun i g e => let ⟨a, h1, h2⟩ := r.2 i g e; ⟨a, h1, k _ _ h2⟩⟩
theorem Rows.snoc {H : Hp} {xs : List V} {gs : List (List Int)} (r : Rows H xs gs) {a : Addr} {g : List Int} (e : H a = some (.tup (g.map V.int))) : Rows H (xs ++ [.ref a]) (gs ++ [g]) := by
  refine ⟨by rw [List.length_append, List.length_append, r.1]; rfl, fun i g' z => ?_⟩
  by_cases h : i < gs.length
  · rw [List.getElem?_append_left h] at z
    obtain ⟨b, h1, h2⟩ := r.2 i g' z
    exact ⟨b, by rw [List.getElem?_append_left (by rw [r.1]; exact h)]; exact h1, h2⟩
  · have hi : i = gs.length := by
      have := (List.getElem?_eq_some_iff.mp z).1
      rw [List.length_append, List.length_singleton] at this
      omega
    subst hi
    rw [List.getElem?_append_right (Nat.le_refl _), Nat.sub_self] at z
    have e2 : g' = g := by injection z with z; exact z.symm
    subst e2
    exact ⟨a, by rw [← r.1, List.getElem?_append_right (Nat.le_refl _), Nat.sub_self]; rfl, e⟩
/-- the entries of the dict of forms -/
def EntOf (G : List Pr) (kvs : List Ent) : Prop := kvs.length = G.length ∧ ∀ (i : Nat) (g : Pr), G[i]? = some g → ∃ b, kvs[i]? = some (g, b, (i : Int))
/-- a list of ints, strictly ascending, from 0 on below n -/
def Asc (n : Nat) (l : List Int) : Prop := l.Pairwise (· < ·) ∧ ∀ x ∈ l, 0 ≤ x ∧ x < (n : Int)
/-- the forms of a yard's games, one behind the other -/
structure Forms (G : List Pr) : Prop where
  zero : G[0]? = some ([], [])
  one : G.Nodup
  asc : ∀ (i : Nat) (g : Pr), G[i]? = some g → Asc i g.1 ∧ Asc i g.2
/-- the height k of a list of heights -/
def hat (hs : List Int) (k : Int) : Int := hs.getD k.toNat 0
/-- h is the height of the form g, by the heights of its options -/
def IsHt (hs : List Int) (g : Pr) (h : Int) : Prop := (g.1 ++ g.2 = [] ∧ h = 0) ∨ ∃ m, m ∈ (g.1 ++ g.2).map (hat hs) ∧ (∀ y ∈ (g.1 ++ g.2).map (hat hs), y ≤ m) ∧ h = 1 + m
def HtOk (G : List Pr) (hs : List Int) : Prop := ∀ (i : Nat) (g : Pr), G[i]? = some g → IsHt hs g (hat hs i)
structure YardAt (P : Program) (w : World) (K : PySem.W.Frag) (H : Hp) (F : Foot) (G : List Pr) (hv : List Int) (ts : List (Key × V)) : Prop where
  ins : H F.y = some (.ins (He.ga K "Yard") F.dx (yfs F))
  ls : ∃ xs, H F.l = some (.lst xs) ∧ Rows H xs (G.map (·.1))
  rs : ∃ xs, H F.r = some (.lst xs) ∧ Rows H xs (G.map (·.2))
  hs : H F.h = some (.lst (hv.map V.int)) ∧ hv.length = G.length
  ns : ∃ kvs, H F.n = some (NdO P w F.n kvs) ∧ Mine.Keys H kvs ∧ EntOf G kvs
  ts : H F.t = some (.dK ts)
  ne : F.l ≠ F.r ∧ F.l ≠ F.h ∧ F.r ≠ F.h
  ht : HtOk G hv
  G : Forms G
/-- not one of the yard's own objects -/
def Off (F : Foot) (c : Addr) : Prop := c ≠ F.l ∧ c ≠ F.r ∧ c ≠ F.h ∧ c ≠ F.n ∧ c ≠ F.t
/-- all but the yard's own objects stays -/
def Gr (F : Foot) (H H' : Hp) : Prop := ∀ c o, H c = some o → Off F c → H' c = some o
theorem Gr.refl (F : Foot) (H : Hp) : Gr F H H := fun _ _ h _ => h
theorem Gr.trans {F : Foot} {H H1 H2 : Hp} (a : Gr F H H1) (b : Gr F H1 H2) : Gr F H H2 := fun c o h f => b c o (a c o h f) f
theorem Gr.of {F : Foot} {H H' : Hp} (e : Ex H H') : Gr F H H' := fun c o h _ => e c o h
section
variable {P : Program} {w : World} {K : PySem.W.Frag} {H H' : Hp} {F : Foot} {G : List Pr} {hs : List Int} {ts : List (Key × V)}
theorem YardAt.ex (Y : YardAt P w K H F G hs ts) (e : Ex H H') : YardAt P w K H' F G hs ts :=
  ⟨e _ _ Y.ins, let ⟨xs, h1, h2⟩ := Y.ls; ⟨xs, e _ _ h1, h2.ex fun c ys => e c _⟩, let ⟨xs, h1, h2⟩ := Y.rs; ⟨xs, e _ _ h1, h2.ex fun c ys => e c _⟩, ⟨e _ _ Y.hs.1, Y.hs.2⟩,
    let ⟨kvs, h1, h2, h3⟩ := Y.ns; ⟨kvs, e _ _ h1, fun x m => (h2 x m).ex fun c ys => e c _, h3⟩, e _ _ Y.ts, Y.ne, Y.ht, Y.G⟩
/-- a fresh address is off -/
theorem YardAt.fresh (Y : YardAt P w K H F G hs ts) {c : Addr} (h : H c = none) : Off F c := by
  obtain ⟨xs, hl, _⟩ := Y.ls
  obtain ⟨ys, hr, _⟩ := Y.rs
  obtain ⟨kvs, hn, _⟩ := Y.ns
  exact ⟨(ne_of_none hl h).symm, (ne_of_none hr h).symm, (ne_of_none Y.hs.1 h).symm, (ne_of_none hn h).symm, (ne_of_none Y.ts h).symm⟩
/-- a tuple is off -/
theorem YardAt.tup (Y : YardAt P w K H F G hs ts) {c : Addr} {xs : List V} (h : H c = some (.tup xs)) : Off F c := by
  obtain ⟨zs, hl, _⟩ := Y.ls
  obtain ⟨ys, hr, _⟩ := Y.rs
  obtain ⟨kvs, hn, _⟩ := Y.ns
  exact ⟨ne_of h hl (by intro z; cases z), ne_of h hr (by intro z; cases z), ne_of h Y.hs.1 (by intro z; cases z), ne_of h hn (by intro z; cases z), ne_of h Y.ts (by intro z; cases z)⟩
theorem YardAt.meth (Y : YardAt P w K H F G hs ts) {m : Str} {Z : Prop} (h1 : ¬ m = "_turned") (h2 : ¬ m = "_numbers") (h3 : ¬ m = "_heights") (h4 : ¬ m = "_rights") (h5 : ¬ m = "_lefts") (q : Z) :
    ∃ b dx fs, V.ref F.y = V.ref b ∧ H b = some (HO.ins (He.ga K "Yard") dx fs) ∧ fs.lookup m = none ∧ Z := ⟨F.y, F.dx, _, rfl, Y.ins, yfs_no F h1 h2 h3 h4 h5, q⟩
end
/-! lists of ints -/
theorem asc_ext : ∀ {a b : List Int}, a.Pairwise (· < ·) → b.Pairwise (· < ·) → (∀ k, k ∈ a ↔ k ∈ b) → a = b
  | [], [], _, _, _ => rfl
  | [], y :: b, _, _, h => absurd ((h y).mpr List.mem_cons_self) (by simp)
  | x :: a, [], _, _, h => absurd ((h x).mp List.mem_cons_self) (by simp)
  | x :: a, y :: b, ha, hb, h => by
    obtain ⟨a1, a2⟩ := List.pairwise_cons.mp ha
    obtain ⟨b1, b2⟩ := List.pairwise_cons.mp hb
    have e : x = y := by
      have h1 := (h x).mp List.mem_cons_self
      have h2 := (h y).mpr List.mem_cons_self
      rcases List.mem_cons.mp h1 with e | m1
      · exact e
      · rcases List.mem_cons.mp h2 with e | m2
        · exact e.symm
        · have := b1 x m1; have := a1 y m2; omega
    subst e
    congr 1
    refine asc_ext a2 b2 fun k => ⟨fun m => ?_, fun m => ?_⟩
    · rcases List.mem_cons.mp ((h k).mp (List.mem_cons_of_mem _ m)) with e | m'
      · subst e; exact absurd (a1 k m) (Int.lt_irrefl _)
      · exact m'
    · rcases List.mem_cons.mp ((h k).mpr (List.mem_cons_of_mem _ m)) with e | m'
      · subst e; exact absurd (b1 k m) (Int.lt_irrefl _)
      · exact m'
theorem asc_low : ∀ {l : List Int} {lo : Int} {n : Nat}, l.Pairwise (· < ·) → (∀ x ∈ l, lo ≤ x ∧ x < lo + n) → l.length ≤ n
  | [], _, _, _, _ => Nat.zero_le _
  | x :: l, lo, n, h, b => by
    obtain ⟨h1, h2⟩ := List.pairwise_cons.mp h
    have bx := b x List.mem_cons_self
    have z := asc_low (l := l) (lo := x + 1) (n := (lo + n - (x + 1)).toNat) h2 fun y m => by
      have := h1 y m
      have := b y (List.mem_cons_of_mem _ m)
      omega
    rw [List.length_cons]
    omega
theorem Asc.len {n : Nat} {l : List Int} (h : Asc n l) : l.length ≤ n := asc_low (lo := 0) h.1 fun x m => by have := h.2 x m; omega
theorem Asc.up {n m : Nat} {l : List Int} (h : Asc n l) (le : n ≤ m) : Asc m l := ⟨h.1, fun x i => by have := h.2 x i; omega⟩
/-- a form is kept: there already, or the new last one -/
def Put (G : List Pr) (p : Pr) (i : Int) (G' : List Pr) : Prop := (∃ k : Nat, i = k ∧ G[k]? = some p ∧ G' = G) ∨ (p ∉ G ∧ i = G.length ∧ G' = G ++ [p])
theorem Put.get {G G' : List Pr} {p : Pr} {i : Int} (h : Put G p i G') : ∃ k : Nat, i = k ∧ G'[k]? = some p := by
  rcases h with ⟨k, e, h, rfl⟩ | ⟨_, e, rfl⟩
  · exact ⟨k, e, h⟩
  · exact ⟨G.length, e, by rw [List.getElem?_append_right (Nat.le_refl _), Nat.sub_self]; rfl⟩
theorem nodup_at {α : Type} {l : List α} (n : l.Nodup) {i j : Nat} {a : α} (h : l[i]? = some a) (h' : l[j]? = some a) : i = j := by
  obtain ⟨l1, e1⟩ := List.getElem?_eq_some_iff.mp h
  obtain ⟨l2, e2⟩ := List.getElem?_eq_some_iff.mp h'
  have pw := List.pairwise_iff_getElem.mp (show l.Pairwise (· ≠ ·) from n)
  rcases Nat.lt_trichotomy i j with c | c | c
  · exact absurd (e1.trans e2.symm) (pw i j l1 l2 c)
  · exact c
  · exact absurd (e2.trans e1.symm) (pw j i l2 l1 c)
theorem Put.one {G G1 G2 : List Pr} {p : Pr} {i j : Int} (n : G.Nodup) (h : Put G p i G1) (h' : Put G p j G2) : i = j ∧ G1 = G2 := by
  rcases h with ⟨k, rfl, h, rfl⟩ | ⟨h1, rfl, rfl⟩
  · rcases h' with ⟨k', rfl, h', rfl⟩ | ⟨h1', _, _⟩
    · exact ⟨by rw [nodup_at n h h'], rfl⟩
    · exact absurd (List.mem_of_getElem? h) h1'
  · rcases h' with ⟨k', rfl, h', rfl⟩ | ⟨_, rfl, rfl⟩
    · exact absurd (List.mem_of_getElem? h') h1
    · exact ⟨rfl, rfl⟩
theorem Forms.put {G G' : List Pr} {p : Pr} {i : Int} (f : Forms G) (h : Put G p i G') (a : Asc G.length p.1) (b : Asc G.length p.2) : Forms G' := by
  rcases h with ⟨k, _, _, rfl⟩ | ⟨n, _, rfl⟩
  · exact f
  · refine ⟨?_, ?_, fun j g e => ?_⟩
    · have := (List.getElem?_eq_some_iff.mp f.zero).1
      rw [List.getElem?_append_left this]; exact f.zero
    · rw [List.nodup_append]
      refine ⟨f.one, by simp, fun x hx y hy e => ?_⟩
      rw [List.mem_singleton] at hy
      subst hy; subst e
      exact n hx
    · by_cases hj : j < G.length
      · rw [List.getElem?_append_left hj] at e; exact f.asc j g e
      · have hj2 : j = G.length := by
          have := (List.getElem?_eq_some_iff.mp e).1
          rw [List.length_append, List.length_singleton] at this
          omega
        subst hj2
        rw [List.getElem?_append_right (Nat.le_refl _), Nat.sub_self] at e
        injection e with e
        subst e
        exact ⟨a, b⟩
theorem Put.len {G G' : List Pr} {p : Pr} {i : Int} (h : Put G p i G') : G.length ≤ G'.length ∧ G'.length ≤ G.length + 1 ∧ 0 ≤ i ∧ i < G'.length := by
  rcases h with ⟨k, rfl, h, rfl⟩ | ⟨_, rfl, rfl⟩
  · have := (List.getElem?_eq_some_iff.mp h).1
    exact ⟨Nat.le_refl _, Nat.le_succ _, by omega, by omega⟩
  · rw [List.length_append, List.length_singleton]
    exact ⟨by omega, by omega, by omega, by omega⟩
theorem EntOf.look {G : List Pr} {kvs : List Ent} (e : EntOf G kvs) (n : G.Nodup) {p : Pr} : (p ∉ G → Mine.look kvs p = none) ∧ ∀ k : Nat, G[k]? = some p → Mine.look kvs p = some (k : Int) := by
  have mem : ∀ x ∈ kvs, ∃ i : Nat, G[i]? = some x.1 ∧ x.2.2 = (i : Int) := fun x m => by
    obtain ⟨i, hi, e1⟩ := List.mem_iff_getElem.mp m
    have lt : i < G.length := by rw [← e.1]; exact hi
    obtain ⟨b, e2⟩ := e.2 i G[i] (List.getElem?_eq_getElem lt)
    have e3 : kvs[i]? = some x := by rw [List.getElem?_eq_getElem hi, e1]
    rw [e3] at e2
    injection e2 with e2
    subst e2
    exact ⟨i, List.getElem?_eq_getElem lt, rfl⟩
  constructor
  · intro h
    unfold Mine.look
    rw [List.find?_eq_none.mpr]
    · rfl
    · intro x m z
      have z := of_decide_eq_true z
      obtain ⟨i, h1, _⟩ := mem x m
      exact h (z ▸ List.mem_of_getElem? h1)
  · intro k hk
    unfold Mine.look
    cases q : kvs.find? (fun e => decide (e.1 = p)) with
    | none =>
      obtain ⟨b, e2⟩ := e.2 k p hk
      have := List.find?_eq_none.mp q _ (List.mem_of_getElem? e2)
      simp at this
    | some x =>
      have h1 := List.find?_some q
      have h1 : x.1 = p := of_decide_eq_true h1
      obtain ⟨i, h2, h3⟩ := mem x (List.mem_of_find?_eq_some q)
      rw [h1] at h2
      have : i = k := nodup_at n h2 hk
      subst this
      show some x.2.2 = _
      rw [h3]
theorem EntOf.snoc {G : List Pr} {kvs : List Ent} (e : EntOf G kvs) (p : Pr) (b : Addr) : EntOf (G ++ [p]) (kvs ++ [(p, b, (G.length : Int))]) := by
  refine ⟨by rw [List.length_append, List.length_append, e.1]; rfl, fun i g h => ?_⟩
  by_cases hi : i < G.length
  · rw [List.getElem?_append_left hi] at h
    obtain ⟨c, h1⟩ := e.2 i g h
    exact ⟨c, by rw [List.getElem?_append_left (by rw [e.1]; exact hi)]; exact h1⟩
  · have hi2 : i = G.length := by
      have := (List.getElem?_eq_some_iff.mp h).1
      rw [List.length_append, List.length_singleton] at this
      omega
    subst hi2
    rw [List.getElem?_append_right (Nat.le_refl _), Nat.sub_self] at h
    injection h with h
    subst h
    exact ⟨b, by rw [← e.1, List.getElem?_append_right (Nat.le_refl _), Nat.sub_self]; rfl⟩
theorem hat_left {hs : List Int} {x k : Int} (h0 : 0 ≤ k) (h1 : k < hs.length) : hat (hs ++ [x]) k = hat hs k := by
  unfold hat
  rw [List.getD_eq_getElem?_getD, List.getElem?_append_left (by omega), ← List.getD_eq_getElem?_getD]
theorem hat_new (hs : List Int) (x : Int) : hat (hs ++ [x]) (hs.length : Nat) = x := by
  unfold hat
  rw [List.getD_eq_getElem?_getD, Int.toNat_natCast, List.getElem?_append_right (Nat.le_refl _), Nat.sub_self]
  rfl
theorem hats_left {hs : List Int} {x : Int} {n : Nat} {l : List Int} (a : ∀ k ∈ l, 0 ≤ k ∧ k < (n : Int)) (le : n ≤ hs.length) : l.map (hat (hs ++ [x])) = l.map (hat hs) := by
  refine List.map_congr_left fun k m => ?_
  have := a k m
  exact hat_left this.1 (by omega)
theorem Asc.both {n : Nat} {g : Pr} (a : Asc n g.1) (b : Asc n g.2) : ∀ k ∈ g.1 ++ g.2, 0 ≤ k ∧ k < (n : Int) := fun k m => by
  rcases List.mem_append.mp m with h | h
  · exact a.2 k h
  · exact b.2 k h
theorem HtOk.snoc {G : List Pr} {hs : List Int} (o : HtOk G hs) (l : hs.length = G.length) (f : Forms G) {p : Pr} (a : Asc G.length p.1) (b : Asc G.length p.2) {h : Int} (n : IsHt hs p h) : HtOk (G ++ [p]) (hs ++ [h]) := by
  intro i g e
  by_cases hi : i < G.length
  · rw [List.getElem?_append_left hi] at e
    obtain ⟨a1, a2⟩ := f.asc i g e
    rw [hat_left (by omega) (by omega)]
    unfold IsHt
    rw [hats_left (Asc.both a1 a2) (by omega)]
    exact o i g e
  · have hi2 : i = G.length := by
      have := (List.getElem?_eq_some_iff.mp e).1
      rw [List.length_append, List.length_singleton] at this
      omega
    subst hi2
    rw [List.getElem?_append_right (Nat.le_refl _), Nat.sub_self] at e
    injection e with e
    subst e
    rw [← l, hat_new]
    unfold IsHt
    rw [hats_left (Asc.both a b) (by omega)]
    exact n
/-- the height of a new game -/
def Hgt (G : List Pr) (hs : List Int) (p : Pr) (G' : List Pr) (hs' : List Int) : Prop := (p ∈ G ∧ hs' = hs) ∨ (p ∉ G ∧ ∃ m, hs' = hs ++ [1 + m] ∧ m ∈ (p.1 ++ p.2).map (hat hs) ∧ ∀ y ∈ (p.1 ++ p.2).map (hat hs), y ≤ m)
end Mine
namespace Mine
open PySem PySem.Spec PyProof.Rows L2
/-! sorted(a set of ints), up to a thousand of them -/
theorem raw_iv (v : Value) (h : ∃ k tk, v = Value.int k tk) : Builtin.Re.reRawOf v = SrtO.iv v := by
  obtain ⟨k, tk, rfl⟩ := h; rfl
section
variable {P : Program} {w : World} {A : Around} {E : Value → Shared → Prop} {s : Shared}
set_option maxHeartbeats 1600000 in
theorem set_in_order {a : Addr} {S : Int → Bool} {n : Nat} {Q : Value → Shared → Prop} (r : SetR w s.heap a S n) (calm : A.handled = none) (few : n ≤ 1000)
    (q : ∀ (s' : Shared) (p : Addr) (out : Array Value) (c : Nat) (ns : List Int), (∀ b o, s.heap.get? b = some o → s'.heap.get? b = some o) → s'.gens = s.gens → s'.os = s.os → s.heap.objs.size ≤ p →
      s'.heap.get? p = some (seqObj "list" out c) → IntsAre out.toList ns → ns.Pairwise (· < ·) → (∀ k, k ∈ ns ↔ S k = true) → ns.length = n → Q (.ref p) s') :
    wpAny (model P w) A (call (.builtin "sorted") [.ref a]) Q E s := by
  obtain ⟨o, es, ep, t, ho, hex, hd, g, one, mem, hb, hf, cnt, ris, led⟩ := r
  refine Calls.call_function_entry kind_sorted plain_sorted entry_sorted (args_sorted1 _) ?_
  unfold Builtin.«sorted»
  refine wpAny_bind (m := checkCount "sorted" 1 1 _) (wpAny_pure ?_)
  refine wpAny_bind (collect_set (A := A.in1) calm ⟨o, ho, hex.1, hd⟩ hf hb ris led fun s1 vs old hz gens1 os1 pm => ?_)
  have many : vs.length = n := by rw [pm.length_eq, List.length_map, Array.length_toList]; exact cnt
  have isI : ∀ v ∈ vs, ∃ k tk, v = Value.int k tk := fun v hv => by
    obtain ⟨e, he, z⟩ := List.mem_map.mp (pm.mem_iff.mp hv)
    obtain ⟨k, tk, h1, _⟩ := g e he
    exact ⟨k, tk, by rw [← z]; exact h1⟩
  have isL := SrtO.ints_iv isI
  have keys : (vs.map SrtO.iv).Perm (es.toList.map L2.keyOf) := by
    have z := pm.map Builtin.Re.reRawOf
    rw [List.map_map] at z
    have e : vs.map Builtin.Re.reRawOf = vs.map SrtO.iv := List.map_congr_left fun v hv => raw_iv v (isI v hv)
    rw [e] at z
    exact z
  have line : vs.length ≤ sizeLine := by rw [many]; exact Nat.le_trans few (by decide)
  refine wpAny_bind (wpAny_newList ?_ line)
  have at_l : (s1.heap.push (seqObj "list" vs.toArray 0)).get? s1.heap.objs.size = some (seqObj "list" vs.toArray 0) := Heap.get?_push_size _ rfl
  refine wpAny_bind (wpAny_holding (wpAny_call_entry slot_list_sort ⟨_, at_l, rfl⟩ entry_list_sort (SrtO.list_sort_ord SrtO.swo_int at_l line (fun h2 => SrtO.ints_sortable isL h2) fun out h1 h2 => ⟨_, rfl, ?_⟩) (args_list_sort _)))
  obtain ⟨k1, k2, k3⟩ := SrtO.ints_out isL h1 h2
  obtain ⟨c, hc⟩ := sortedHeap_at (vs := vs) (out := out.toArray) at_l
  have pn := k2.trans keys
  refine wpAny_pure ⟨_, rfl, q _ s1.heap.objs.size out.toArray c (out.map SrtO.iv) (fun b u e => ?_) gens1 os1 hz hc k1 (lt_of_le_nodup _ k3 (pn.nodup_iff.mpr one)) (fun k => by rw [pn.mem_iff, ← mem k]) ?_⟩
  · have z := old b u e
    have lt := Heap.lt_size z
    show (sortedHeap (s1.heap.push (seqObj "list" vs.toArray 0)) s1.heap.objs.size vs out.toArray).get? b = some u
    rw [sortedHeap_old (Nat.ne_of_lt lt) (by rw [size_push']; exact Nat.lt_succ_of_lt lt)]
    exact Heap.get?_push_of_some _ z
  · rw [pn.length_eq, List.length_map, Array.length_toList]; exact cnt
end
def rSortX (w : World) : List V → Hp → VK → Prop := fun vs H Q => ∃ (a : Addr) (S : Int → Bool) (n : Nat), vs = [V.ref a] ∧ H a = some (SetO w a S n) ∧ n ≤ 1000 ∧
  ∀ (ns : List Int) (p : Addr), ns.Pairwise (· < ·) → (∀ k : Int, k ∈ ns ↔ S k = true) → ns.length = n → H p = none → Q (.ref p) (upd H p (.lst (ns.map V.int)))
theorem cr_sortX {X : Cx} (hc : X.calm = true) : CallR X (.builtin "sorted") (rSortX X.w) := by
  intro pins s σ H vs us Q I r h
  obtain ⟨a, S, n, rfl, ha, few, q⟩ := h
  rw [Vals.ref1 r]
  refine set_in_order (setO_get I ha) (I.ok.hd hc) few fun s' p out c ns k g o hp hg hi hs hm hl => ?_
  have line : (ns.map V.int).length ≤ sizeLine := by rw [List.length_map, hl]; exact Nat.le_trans few (by decide)
  have np : H p = none := I.hok.fresh hp
  have J : Inv X pins σ (upd H p (.lst (ns.map V.int))) { s with heap := s'.heap, gens := s'.gens, drawn := s'.drawn, toks := s'.toks } :=
    I.call (ch := []) (Un.laid k hp np) (I.hok.laid k hp ⟨line, out.toList, c, vals_of_ints hi, hg⟩) (by rw [g]; exact I.bare) (fun _ z => nomatch z)
  have e : s' = { s with heap := s'.heap, gens := s'.gens, drawn := s'.drawn, toks := s'.toks } := by
    cases s'; cases s; cases o; rfl
  rw [e]
  exact ⟨.ref p, _, J, rfl, q ns p hs hm hl np⟩
end Mine
namespace Mine
open PySem PySem.Spec PyProof.Rows L2
open Evl (Ex)
theorem hu9 {A : Around} {k : Nat} (hr : Room k A) : A.units + 9 < cLine := by have := hr.units; omega
/-! comprehensions whose items are known -/
/-- what a comprehension asks behind its source -/
def lcR (g : TG) (tt : TT) (te : TE) (vs : List Nat) (σ : L2.St) (Q : VK) : It → Hp → Prop := fun J H1 => ∀ D, H1 D = none → ∃ W : Nat → Nat → Hp → Prop, (∃ m, W 0 m (upd H1 D (.lst []))) ∧ ∀ i m H, W i m H →
  (J.stop i H ∧ Q (.ref D) H) ∨ (J.go i H ∧ ∃ Nx : Hp → Prop, (∀ H', Nx H' → ∃ m', m' < m ∧ W (i + 1) m' H') ∧ ∀ x H', J.yld i H x H' → g x (wipe σ vs) H' fun σ2 H2 => wipe σ2 vs = wipe σ vs ∧ tt σ2 H2 fun b H3 =>
    if b = true then te σ2 H3 fun y H4 => ∃ acc, H4 D = some (.lst acc) ∧ acc.length < sizeLine ∧ Nx (upd H4 D (.lst (acc ++ [y]))) else Nx H3)
/-- one turn gives the item o (none: it is left out) -/
def turnR (g : TG) (tt : TT) (te : TE) (vs : List Nat) (σ : L2.St) (x : V) (o : Option V) (H1 : Hp) : Prop := ∀ H', Ex H1 H' → ∀ R : Option V → Hp → Prop, (∀ H'', Ex H' H'' → R o H'') →
  g x (wipe σ vs) H' fun σ2 H2 => wipe σ2 vs = wipe σ vs ∧ tt σ2 H2 fun b H3 => if b = true then te σ2 H3 fun y H4 => R (some y) H4 else R none H3
/-- the way a reading passes a weaker wish on -/
structure MonoLc (g : TG) (tt : TT) (te : TE) (vs : List Nat) (σ : L2.St) : Prop where
  up : ∀ (x : V) (H' : Hp) (R R' : Option V → Hp → Prop), (∀ o H, R o H → R' o H) → (g x (wipe σ vs) H' fun σ2 H2 => wipe σ2 vs = wipe σ vs ∧ tt σ2 H2 fun b H3 => if b = true then te σ2 H3 fun y H4 => R (some y) H4 else R none H3) →
    g x (wipe σ vs) H' fun σ2 H2 => wipe σ2 vs = wipe σ vs ∧ tt σ2 H2 fun b H3 => if b = true then te σ2 H3 fun y H4 => R' (some y) H4 else R' none H3
section
variable {g : TG} {tt : TT} {te : TE} {vs : List Nat} {σ : L2.St} {Q : VK} {H1 : Hp} {K : PySem.W.Frag} {wi : TI}
theorem k_lc {H : Hp} (q : wi σ H (lcR g tt te vs σ Q)) : tLc wi g tt te vs σ H Q := q
theorem turn_in {x : V} {o : Option V} {D : Addr} {acc : List V} {H : Hp} {Nx : Hp → Prop} (t : turnR g tt te vs σ x o H1) (e : Ex H1 H) (hD : H1 D = none) (a : H D = some (.lst acc)) (len : acc.length < sizeLine)
    (nx : ∀ H', Ex H1 H' → H' D = some (.lst (acc ++ o.toList)) → Nx H') :
    g x (wipe σ vs) H fun σ2 H2 => wipe σ2 vs = wipe σ vs ∧ tt σ2 H2 fun b H3 => if b = true then te σ2 H3 fun y H4 => ∃ acc, H4 D = some (.lst acc) ∧ acc.length < sizeLine ∧ Nx (upd H4 D (.lst (acc ++ [y]))) else Nx H3 := by
  refine t H e (fun o' H4 => match o' with | some y => ∃ acc, H4 D = some (.lst acc) ∧ acc.length < sizeLine ∧ Nx (upd H4 D (.lst (acc ++ [y]))) | none => Nx H4) fun H'' e2 => ?_
  cases o with
  | none => exact nx H'' (e.trans e2) (by rw [e2 _ _ a]; simp)
  | some y => exact ⟨acc, e2 _ _ a, len, nx _ (Evl.Ex.mut (e.trans e2) hD) upd_same⟩
theorem lcR_list {a : Addr} {xs : List V} (f : V → Option V) (hS : SqL K H1 a xs) (len : xs.length < sizeLine) (t : ∀ x ∈ xs, turnR g tt te vs σ x (f x) H1)
    (q : ∀ D H', H1 D = none → Ex H1 H' → H' D = some (.lst (xs.filterMap f)) → Q (.ref D) H') : lcR g tt te vs σ Q (Itl K a) H1 := by
  intro D hD
  refine lc_list (K := K) (a := a) (xs := xs) (fun i H => Ex H1 H ∧ H D = some (.lst ((xs.take i).filterMap f))) ⟨Evl.Ex.new hD, upd_same⟩ (fun i H _ p => Evl.ex_l p.1 hS) (fun i x H hx p => ?_) (fun H p => ?_)
  · refine turn_in (t x (List.mem_of_getElem? hx)) p.1 hD p.2 ?_ fun H' e h' => ⟨e, ?_⟩
    · refine Nat.lt_of_le_of_lt (Nat.le_trans (List.length_filterMap_le _ _) ?_) len
      rw [List.length_take]; omega
    · rw [h', List.take_add_one, hx, List.filterMap_append]
      cases h : f x <;> simp [h]
  · refine q D H hD p.1 ?_
    rw [p.2, List.take_of_length_le (Nat.le_refl _)]
theorem lcR_tup {a : Addr} {xs : List V} (f : V → Option V) (hS : SqT K H1 a xs) (len : xs.length < sizeLine) (t : ∀ x ∈ xs, turnR g tt te vs σ x (f x) H1)
    (q : ∀ D H', H1 D = none → Ex H1 H' → H' D = some (.lst (xs.filterMap f)) → Q (.ref D) H') : lcR g tt te vs σ Q (Itt K a) H1 := by
  intro D hD
  refine lc_tup (K := K) (a := a) (xs := xs) (fun i H => Ex H1 H ∧ H D = some (.lst ((xs.take i).filterMap f))) ⟨Evl.Ex.new hD, upd_same⟩ (fun i H _ p => Evl.ex_t p.1 hS) (fun i x H hx p => ?_) (fun H p => ?_)
  · refine turn_in (t x (List.mem_of_getElem? hx)) p.1 hD p.2 ?_ fun H' e h' => ⟨e, ?_⟩
    · refine Nat.lt_of_le_of_lt (Nat.le_trans (List.length_filterMap_le _ _) ?_) len
      rw [List.length_take]; omega
    · rw [h', List.take_add_one, hx, List.filterMap_append]
      cases h : f x <;> simp [h]
  · refine q D H hD p.1 ?_
    rw [p.2, List.take_of_length_le (Nat.le_refl _)]
theorem lcR_rng {n : Nat} (f : Nat → Option V) (len : n < sizeLine) (t : ∀ i, i < n → turnR g tt te vs σ (.int (i : Int)) (f i) H1)
    (q : ∀ D H', H1 D = none → Ex H1 H' → H' D = some (.lst ((List.range n).filterMap f)) → Q (.ref D) H') : lcR g tt te vs σ Q (Itr 0 n) H1 := by
  intro D hD
  refine lc_range (lo := 0) (n := n) (fun i H => Ex H1 H ∧ H D = some (.lst ((List.range i).filterMap f))) ⟨Evl.Ex.new hD, upd_same⟩ (fun i H hi p => ?_) (fun H p => q D H hD p.1 p.2)
  have e0 : (0 : Int) + (i : Int) = (i : Int) := Int.zero_add _
  rw [e0]
  refine turn_in (t i hi) p.1 hD p.2 ?_ fun H' e h' => ⟨e, ?_⟩
  · refine Nat.lt_of_le_of_lt (Nat.le_trans (List.length_filterMap_le _ _) ?_) (Nat.lt_trans hi len)
    rw [List.length_range]; exact Nat.le_refl i
  · rw [h', List.range_succ, List.filterMap_append]
    cases h : f i <;> simp [h]
/-- a turn of x where the item is plain -/
theorem turn_map {i : Nat} {x y : V} (h : ∀ H', Ex H1 H' → ∀ R : VK, R y H' → te ((wipe σ [i]).set i (some x)) H' R) (w : wipe ((wipe σ [i]).set i (some x)) [i] = wipe σ [i] := by rfl) : turnR (gName i) tYes te [i] σ x (some y) H1 :=
  fun H' e R r => ⟨w, h H' e (fun y H4 => R (some y) H4) (r H' (Evl.Ex.refl _))⟩
end
section
variable {X : Cx}
/-- tuple(xs), xs a list -/
def rTupL (K : PySem.W.Frag) : List V → Hp → VK → Prop := fun vs H Q => ∃ p ys, vs = [V.ref p] ∧ SqL K H p ys ∧ ∀ l, H l = none → Q (.ref l) (upd H l (.tup ys))
theorem cr_tupL : CallR X (.type "tuple") (rTupL X.K) := fun pins s σ H xs us Q I r h =>
  let ⟨p, ys, e, h1, q⟩ := h
  call_tuple_of pins s σ H xs us Q I r ⟨p, ys, e, Or.inl ⟨h1, q⟩⟩
end
section
variable {H : Hp} {Q : VK} {K : PySem.W.Frag}
theorem k_tsl {r : V → Option Int → Option Int → Hp → VK → Prop} {σ : L2.St} {te : TE} {tl th : TO} (q : te σ H fun x H1 => tl σ H1 fun l H2 => th σ H2 fun u H3 => r x l u H3 Q) : L2.tSl r te tl th σ H Q := q
theorem k_part {σ : L2.St} {t : TE} {R : Option Int → Hp → Prop} (q : t σ H fun x H1 => ∃ i, x = .int i ∧ R (some i) H1) : tPart t σ H R := q
theorem k_nopart {σ : L2.St} {R : Option Int → Hp → Prop} (q : R none H) : tNoPart σ H R := q
theorem k_exi {R : Int → Prop} {j : Int} (q : R j) : ∃ i, V.int j = V.int i ∧ R i := ⟨j, rfl, q⟩
theorem k_slL {a : Addr} {xs : List V} {lo hi : Option Int} (h : SqL K H a xs) (q : ∀ p, H p = none → Q (.ref p) (upd H p (.lst (cutV xs lo hi)))) : rSlL K (.ref a) lo hi H Q := ⟨a, xs, rfl, h, q⟩
theorem k_sfl {σ : L2.St} {D : Ends} {ta tv : TE} {f : Str} (q : tv σ H fun y H1 => ta σ H1 fun x H2 => ∃ a C dx fs, x = .ref a ∧ H2 a = some (.ins C dx fs) ∧ Cls K C ∧ NoAttr K C f ∧ fs.length < 1000 ∧ D.nx σ (upd H2 a (.ins C dx (putF f y fs)))) : sFld K ta tv f D σ H := q
theorem k_nnot {P : Program} {w : World} {σ : L2.St} {ty td : TE} (q : ty σ H fun y H1 => td σ H1 fun x H2 => ∃ a b kvs p, x = V.ref a ∧ y = V.ref b ∧ H2 a = some (NdO P w a kvs) ∧ Mine.Keys H2 kvs ∧ PrT H2 b p ∧ Q (.bl (!(look kvs p).isSome)) H2) : tNNot P w ty td σ H Q := q
theorem k_nget {P : Program} {w : World} {σ : L2.St} {ty td : TE} (q : td σ H fun x H1 => ty σ H1 fun y H2 => ∃ a b kvs p v, x = V.ref a ∧ y = V.ref b ∧ H2 a = some (NdO P w a kvs) ∧ Mine.Keys H2 kvs ∧ PrT H2 b p ∧ look kvs p = some v ∧ Q (.int v) H2) : tNGet P w td ty σ H Q := q
theorem k_nput {P : Program} {w : World} {σ : L2.St} {D : Ends} {ty td tv : TE} (q : tv σ H fun z H1 => td σ H1 fun x H2 => ty σ H2 fun y H3 => ∃ a b kvs p v, z = V.int v ∧ x = V.ref a ∧ y = V.ref b ∧ H3 a = some (NdO P w a kvs) ∧ Mine.Keys H3 kvs ∧ PrT H3 b p ∧ look kvs p = none ∧
  kvs.length < sizeLine ∧ D.nx σ (upd H3 a (NdO P w a (kvs ++ [(p, b, v)])))) : sNPut P w td ty tv D σ H := q
theorem k_dget {σ : L2.St} {ty td : TE} (q : td σ H fun x H1 => ty σ H1 fun y H2 => ∃ a v, x = V.ref a ∧ DGet H2 a y (some v) ∧ Q v H2) : tDGet td ty σ H Q := q
theorem k_din {σ : L2.St} {ty td : TE} (q : ty σ H fun y H1 => td σ H1 fun x H2 => ∃ a o, x = V.ref a ∧ DGet H2 a y o ∧ Q (.bl o.isSome) H2) : tDIn ty td σ H Q := q
theorem k_dnotin {σ : L2.St} {ty td : TE} (q : ty σ H fun y H1 => td σ H1 fun x H2 => ∃ a o, x = V.ref a ∧ DGet H2 a y o ∧ Q (.bl (!o.isSome)) H2) : tDNotIn ty td σ H Q := q
theorem k_dput {σ : L2.St} {D : Ends} {ty td tv : TE} (q : tv σ H fun v H1 => td σ H1 fun x H2 => ty σ H2 fun y H3 => ∃ a H4, x = V.ref a ∧ DPut H3 a y v H4 ∧ D.nx σ H4) : sDPut td ty tv D σ H := q
theorem k_rCatA {a b : Addr} {xs ys : List V} (h1 : SqT K H a xs) (h2 : SqT K H b ys) (l : xs.length + ys.length ≤ sizeLine) (q : ∀ p H', Ex H H' → SqT K H' p (xs ++ ys) → Q (.ref p) H') : rCatA K (.ref a) (.ref b) H Q :=
  ⟨a, b, xs, ys, rfl, rfl, h1, h2, l, fun e => q b H (Evl.Ex.refl H) (by rw [e]; exact h2), fun _ e => q a H (Evl.Ex.refl H) (by rw [e, List.append_nil]; exact h1), fun _ _ p n => q p _ (Evl.Ex.new n) (k_st upd_same)⟩
/-- what an item of ints is made into -/
def onI (f : Int → Int) : V → Option V := fun v => match v with | .int k => some (.int (f k)) | _ => none
theorem onI_map (f : Int → Int) (ns : List Int) : (ns.map V.int).filterMap (onI f) = (ns.map f).map V.int := by
  induction ns with
  | nil => rfl
  | cons x xs ih =>
    have e : onI f (V.int x) = some (V.int (f x)) := rfl
    rw [List.map_cons, List.filterMap_cons, e, ih]
    rfl
theorem hat_at {hs : List Int} {k : Int} {n : Nat} (l : hs.length = n) (h0 : 0 ≤ k) (h1 : k < n) : atI (hs.map V.int) k = some (V.int (hat hs k)) := by
  obtain ⟨z, hz, e⟩ := at_int (ns := hs) h0 (by omega)
  rw [e]
  unfold hat
  rw [List.getD_eq_getElem?_getD, hz]
  rfl
theorem k_rTupL {p : Addr} {ys : List V} (h : SqL K H p ys) (q : ∀ l, H l = none → Q (.ref l) (upd H l (.tup ys))) : rTupL K [.ref p] H Q := ⟨p, ys, rfl, h, q⟩
theorem k_rListL {p : Addr} {ys : List V} (h : SqL K H p ys) (q : ∀ l, H l = none → Q (.ref l) (upd H l (.lst ys))) : rListQ K [.ref p] H Q := ⟨p, ys, rfl, Or.inl h, q⟩
theorem k_rListT {p : Addr} {ys : List V} (h : SqT K H p ys) (q : ∀ l, H l = none → Q (.ref l) (upd H l (.lst ys))) : rListQ K [.ref p] H Q := ⟨p, ys, rfl, Or.inr h, q⟩
theorem k_rSetL {w : World} {p : Addr} {ns : List Int} (h : SqL K H p (ns.map V.int)) (b : ns.length ≤ 1000) (q : ∀ (p : Addr) (c : Nat), H p = none → c ≤ ns.length → Q (.ref p) (upd H p (SetO w p (fun j => decide (j ∈ ns)) c))) : rSetL K w [.ref p] H Q :=
  ⟨p, ns, rfl, h, Nat.lt_of_le_of_lt (Nat.succ_le_succ b) (by decide), q⟩
theorem k_rSorted {w : World} {a : Addr} {S : Int → Bool} {n : Nat} (h : H a = some (SetO w a S n)) (l : n ≤ 1000) (q : ∀ (ns : List Int) (p : Addr), ns.Pairwise (· < ·) → (∀ k : Int, k ∈ ns ↔ S k = true) → ns.length = n → H p = none → Q (.ref p) (upd H p (.lst (ns.map V.int)))) :
    rSortX w [.ref a] H Q := ⟨a, S, n, rfl, h, l, q⟩
theorem inV_ints (x : Int) : ∀ ns : List Int, inV (V.int x) (ns.map V.int) = decide (x ∈ ns)
  | [] => rfl
  | y :: ys => by
    show (eqV (V.int y) (V.int x) || inV (V.int x) (ys.map V.int)) = _
    rw [inV_ints x ys]
    have e1 : eqV (V.int y) (V.int x) = decide (x = y) := by
      by_cases h1 : x = y
      · subst h1; simp [eqV]
      · simp [eqV, h1, Ne.symm h1]
    rw [e1]
    by_cases h1 : x = y <;> simp [h1]
theorem k_in {neg : Bool} {x : Int} {p : Addr} {ns : List Int} (h : SqL K H p (ns.map V.int)) (q : Q (.bl (if neg then !decide (x ∈ ns) else decide (x ∈ ns))) H) : rIn K neg (.int x) (.ref p) H Q := by
  have f : (ns.map V.int).all flatV = true := by simp [flatV]
  exact ⟨p, _, rfl, Or.inl h, rfl, f, by rw [inV_ints]; exact q⟩
theorem k_rMaxL {a : Addr} {ns : List Int} (h : SqL K H a (ns.map V.int)) (l : 0 < ns.length) (q : ∀ m, m ∈ ns → (∀ y, y ∈ ns → y ≤ m) → Q (.int m) H) : rMax K [.ref a] H Q := ⟨a, ns, rfl, h, l, q⟩
theorem k_rCat {a b : Addr} {xs ys : List V} (h1 : H a = some (.lst xs)) (h2 : H b = some (.lst ys)) (l : xs.length + ys.length ≤ sizeLine) (q : ∀ p, H p = none → Q (.ref p) (upd H p (.lst (xs ++ ys)))) : rCat (.ref a) (.ref b) H Q := ⟨a, b, xs, ys, rfl, rfl, h1, h2, l, q⟩
end
end Mine
namespace Mine
open PySem PySem.Spec PyProof.Rows L2
open Evl (Ex)
/-! a part that is read under a condition on the error -/
def tWhen (p : Prop) (t : TS) : TS := fun D σ H => p ∧ t D σ H
theorem pss_when {X : Cx} {b : List Stmt} {p : Prop} {t : TS} (h : p → PSs X b t) : PSs X b (tWhen p t) :=
  ⟨fun pins s σ H D I q => (h q.1).run pins s σ H D I q.2⟩
theorem zc_at {cls c : Value} {d : Option Addr} {oe : Obj} (h : cls = c ∧ d = none) (z : Zc cls d oe) : Zc c none oe := by
  obtain ⟨rfl, rfl⟩ := h
  exact z
/-- try: body except c as (slot i): suite -/
def tTryAs (K : PySem.W.Frag) (c : Value) (i : Nat) (tb : WX → TS) (ts : Addr → Value → Option Addr → TS) : TS := fun D σ H => tb (wAs K c i ts (fun _ _ _ _ => False) D) D σ H
theorem k_isE {K : PySem.W.Frag} {D a : Addr} {c : V} {cv : Value} {b : Bool} {H : Hp} {Q : VK} (h : PySem.W.kitOne K (.ref D) cv = some b) (hc : ∀ u, RelV c u → u = cv) (q : Q (.bl b) H) : rIsE K D a [.ref a, c] H Q :=
  ⟨c, cv, b, rfl, hc, h, q⟩
theorem rel_ref {c : Addr} : ∀ u, RelV (.ref c) u → u = .ref c := fun _ h => h
theorem rel_ty {n : String} : ∀ u, RelV (.ty n) u → u = .type n := fun _ h => h
/-- C(e, ..) where its __init__ may raise, at the slots -/
def tMakeS (C : Addr) (sp : Sp) (dvs : List V) (E : L2.St → XK) (t : TA) : TE := fun σ H Q => t σ H fun vs H1 => ∀ x dx, H1 x = none → H1 dx = none → dx ≠ x → sp (.ref x :: (vs ++ dvs)) (upd (upd H1 dx (.own x)) x (.ins C dx [])) (fun v H2 => v = .non ∧ Q (.ref x) H2) (E σ)
section
variable {X : Cx} {CX : CXT} {k : Nat} {f C : Addr} {fd : FuncData} {ps : List Str} {sp : Sp} {E : L2.St → XK} {dvs : List V} {ds : List Value} {x : Str} {p pos : Pos} {e : Expr} {es : List Expr} {t : TA}
theorem pe_makeS (M : Mk X.K C f) (F : FnOk X.prog X.w X.K X.mg X.base CX k f fd ps sp) (hr : Room (k + 1) X.A) (hg : Gl X x) (hm : X.mg x = some (.ref C)) (hb : Binds X.K fd ps ds) (hd : Vals dvs ds) (hx : ∀ σ, PassesAt CX X σ (E σ))
    (ha : PA X (e :: es) t) (hdb : (x == ("__debug__" : Str)) = false := by decide) (he : starEach (e :: es) X.env = (false, eval e X.env) :: starEach es X.env := by rfl) (hpl : (backTo pos (starEach es X.env)).any (·.1) = false := by rfl) :
    PE X (.Call (.Name x p) (e :: es) [] pos) (tMakeS C sp dvs E t) := by
  constructor
  intro pins s σ H Q I h
  refine wpAny_Call_Name_kw (ld_glob I hg hm ?_ hdb)
  refine PySem.W.callWith_K (h₀ := X.base) I.ok.mod.kin M.kp ?_ he hpl
  refine thn (ha.run pos pins s σ H _ I h) ?_
  rintro us s1 ⟨vs, H1, I1, r, q⟩
  refine ⟨I1.kIn, ?_⟩
  have q1 := q (s1.heap.objs.size + 1) s1.heap.objs.size (I1.hok.fresh (Nat.le_succ _)) (I1.hok.fresh (Nat.le_refl _)) (Nat.ne_of_lt (Nat.lt_succ_self _))
  have J := Inv.made (C := C) I1
  have rr : Vals (V.ref (s1.heap.objs.size + 1) :: (vs ++ dvs)) (Value.ref (s1.heap.objs.size + 1) :: (us ++ ds)) := .cons rfl (r.append hd)
  have hl : (Value.ref (s1.heap.objs.size + 1) :: us ++ ds).length = ps.length := by
    rw [← F.len _ _ _ _ q1]; exact rr.length.symm
  refine wpAny_call (make_map (f := f) I1.kIn M.makes M.init (beq_iff_eq.mp M.fn) (codeAny_mono (F.run _ X.stack _ _ ⟨Value.ref (s1.heap.objs.size + 1) :: us, []⟩ (Value.ref (s1.heap.objs.size + 1) :: (us ++ ds)) _ _ (E σ) (hr.make C us [])
    (J.env0.make C us []) (hb _ (Value.ref (s1.heap.objs.size + 1) :: us) J.kIn hl) rr q1) ?_))
  rintro (er | fl) s' hq
  · exact hx σ pins _ _ er s' J hq
  · cases fl with
    | ret u =>
      obtain ⟨v, H', I3, rv, ev, q3⟩ := J.after hq
      subst ev
      exact ⟨rv, ⟨V.ref (s1.heap.objs.size + 1), H', I3, rfl, q3⟩⟩
    | next => exact False.elim hq
    | brk => exact False.elim hq
    | cont => exact False.elim hq
end
open PySem.W (Frag)
def excCB (K : Frag) (C : Str) : Bool :=
  He.eqO (PySem.W.findIn K (.ref (He.ga K C)) "__getattribute__") (some (some (.builtin "BaseException.__getattribute__"))) &&
  (decide (PySem.W.findIn K (.ref (He.ga K C)) "__getattr__" = some none) &&
  (decide (PySem.W.subIn K (.ref (He.ga K C)) (.type "BaseException") = some true) &&
  (decide (PySem.W.hasDictIn K (He.ga K C) = true) &&
  (He.eqO (PySem.W.findIn K (.ref (He.ga K C)) "__class__") (some (some (.builtin "object.__class__"))) &&
  (He.eqO (PySem.W.specialIn K (.builtin "object.__class__") "__get__") (some (some (.builtin "getset_descriptor.__get__"))) &&
  (decide (PySem.W.takesIn K (.builtin "object.__class__") = some true) && decide (PySem.W.mroIn K (He.ga K C) (.type "object") = some true)))))))
theorem excC_ok {K : Frag} {C : Str} (h : excCB K C = true) : ExcC K (He.ga K C) := by
  unfold excCB at h
  rw [Bool.and_eq_true, Bool.and_eq_true, Bool.and_eq_true, Bool.and_eq_true, Bool.and_eq_true, Bool.and_eq_true, Bool.and_eq_true] at h
  obtain ⟨h1, h2, h3, h4, h5, h6, h7, h8⟩ := h
  exact ⟨He.eqO_ok h1, of_decide_eq_true h2, of_decide_eq_true h3, of_decide_eq_true h4, He.eqO_ok h5, He.eqO_ok h6, of_decide_eq_true h7, of_decide_eq_true h8⟩
/-- what the errors' classes say of BadValue -/
structure FBadValue (K : Frag) : Prop where
  ex : PySem.W.exmOne K (.ref (He.ga K "BadValue")) (.ref (He.ga K "PlayError")) = some true
  k1 : PySem.W.kitOne K (.ref (He.ga K "BadValue")) (.ref (He.ga K "BadText")) = some false
  k2 : PySem.W.kitOne K (.ref (He.ga K "BadValue")) (.ref (He.ga K "NoMove")) = some false
  k3 : PySem.W.kitOne K (.ref (He.ga K "BadValue")) (.ref (He.ga K "Unknown")) = some false
  k4 : PySem.W.kitOne K (.ref (He.ga K "BadValue")) (.ref (He.ga K "BadValue")) = some true
  k5 : PySem.W.kitOne K (.ref (He.ga K "BadValue")) (.type "ValueError") = some true
end Mine
namespace Mine
open PySem PySem.Spec PyProof.Rows L2
open Evl (Ex)
section
variable {σ : L2.St} {H : Hp} {Q : VK} {K : PySem.W.Frag} {D : Ends}
theorem k_tryAs {c : Value} {i : Nat} {tb : WX → TS} {ts : Addr → Value → Option Addr → TS} (q : tb (wAs K c i ts (fun _ _ _ _ => False) D) D σ H) : tTryAs K c i tb ts D σ H := q
theorem k_makeS {C : Addr} {sp : Sp} {dvs : List V} {E : L2.St → XK} {t : TA} (q : t σ H fun vs H1 => ∀ x dx, H1 x = none → H1 dx = none → dx ≠ x → sp (.ref x :: (vs ++ dvs)) (upd (upd H1 dx (.own x)) x (.ins C dx [])) (fun v H2 => v = .non ∧ Q (.ref x) H2) (E σ)) : tMakeS C sp dvs E t σ H Q := q
theorem k_callSD {sp : Sp} {dvs : List V} {E : L2.St → XK} {t : TA} (q : t σ H fun vs H1 => sp (vs ++ dvs) H1 Q (E σ)) : tCallSD sp dvs E t σ H Q := q
theorem k_when {p : Prop} {t : TS} (h : p) (q : t D σ H) : tWhen p t D σ H := ⟨h, q⟩
/-- the suite is reached -/
theorem k_wAs {cls : Value} {c : Value} {i : Nat} {d : Option Addr} {ts : Addr → Value → Option Addr → TS} {Wout : WX} (e : PySem.W.exmOne K cls c = some true)
    (q : ∀ a, H a = none → ts a cls d { nx := fun σ' H' => D.nx (σ'.set i none) H', rt := D.rt, bk := fun σ' H' => D.bk (σ'.set i none) H', ct := fun σ' H' => D.ct (σ'.set i none) H' } (σ.set i (some (.ref a))) H) : WE (wAs K c i ts Wout D) σ cls d H :=
  ⟨true, e, fun _ => q, fun z => Bool.noConfusion z⟩
theorem TyB.ex {H H' : Hp} {x : V} {T : String} (t : TyB K H x T) (e : Ex H H') : TyB K H' x T := by
  cases t
  case lst h => exact .lst (Evl.ex_l e h)
  case tup h => exact .tup (Evl.ex_t e h)
  case dK h => exact .dK (e _ _ h)
  all_goals constructor
end
/-! keywords -/
def gKA {α : Type} (us ds zs : List α) : List α := us ++ (zs ++ ds)
def gKB {α : Type} (us _ zs : List α) : List α := us ++ zs
def gKC {α : Type} (us _ zs : List α) : List α := us ++ zs.reverse
theorem vals_rev {vs : List V} {us : List Value} (r : Vals vs us) : Vals vs.reverse us.reverse := by
  induction r with
  | nil => exact .nil
  | cons h _ ih => rw [List.reverse_cons, List.reverse_cons]; exact ih.append (.cons h .nil)
theorem gKA_rel {vs ds zs : List V} {us its ws : List Value} (r : Vals vs us) (rd : Vals ds its) (rz : Vals zs ws) : Vals (gKA vs ds zs) (gKA us its ws) := r.append (rz.append rd)
theorem gKB_rel {vs ds zs : List V} {us its ws : List Value} (r : Vals vs us) (_ : Vals ds its) (rz : Vals zs ws) : Vals (gKB vs ds zs) (gKB us its ws) := r.append rz
theorem gKC_rel {vs ds zs : List V} {us its ws : List Value} (r : Vals vs us) (_ : Vals ds its) (rz : Vals zs ws) : Vals (gKC vs ds zs) (gKC us its ws) := r.append (vals_rev rz)
end Mine
namespace Mine
open PySem PySem.Spec PyProof.Rows L2
open PySem.AutoSeq1
/-! enumerate(a tuple) -/
set_option maxHeartbeats 1600000 in
theorem meets_enum1 {v : Value} {o : Obj} {G : Heap → Prop} (B : Begins v o G) :
    Meets (Builtin.«enumerate.__new__» ⟨[.type "enumerate", v], []⟩) (fun _ R s => G s.heap ∧
      R (.ok (.ret (.ref (s.heap.push o).objs.size))) { s with heap := (s.heap.push o).push { cls := .type "enumerate", data := .fields #[.none, .bool false, .ref s.heap.objs.size, rawInt 0, .none, .none] } }) :=
  .of_wp fun prog w A R s h => by
    obtain ⟨hp, g, d, tk, os⟩ := s
    obtain ⟨h1, h⟩ := h
    have sub := sub_enumerate
    have begins : ∀ {A' : Around} {E : Value → Shared → Prop} {Q : Value → Shared → Prop}, Q (.ref hp.objs.size) ⟨hp.push o, g, d, tk, os⟩ → wpAny (model prog w) A' (pyIter v) Q E ⟨hp, g, d, tk, os⟩ :=
      fun q => B.iter prog w _ _ ⟨hp, g, d, tk, os⟩ _ h1 q
    wp_walk using begins
    refine wpAny_stack_any fun st => wpAny_pure ?_
    split
    · rename_i c _ _ _ _ _
      cases (c == Value.type "enumerate")
      · wp_walk using begins
        exact ⟨_, rfl, h⟩
      · wp_walk using begins
        exact ⟨_, rfl, h⟩
    · wp_walk using begins
      exact ⟨_, rfl, h⟩
section
variable {prog : Program} {w : World} {A : Around} {E : Value → Shared → Prop} {s : Shared}
theorem enum1_begins {v : Value} {o : Obj} {G : Heap → Prop} {Q : Value → Shared → Prop} (B : Begins v o G) (h1 : G s.heap)
    (q : ∀ h', IsEnum h' (s.heap.objs.size + 1) s.heap.objs.size 0 .none → h'.get? s.heap.objs.size = some o → (∀ b u, s.heap.get? b = some u → h'.get? b = some u) → Q (.ref (s.heap.objs.size + 1)) { s with heap := h' }) :
    wpAny (model prog w) A (call (.type "enumerate") [v]) Q E s := by
  refine callType_new F.called_enumerate (by decide) (F.typeCall_enumerate_1 _) (F.newCall_enumerate_1 _) (fun obj => F.args_object_init_2 obj _) F.entry_enumerate_new (meets_enum1 B) ⟨h1, ?_⟩
  have z : (s.heap.push o).objs.size = s.heap.objs.size + 1 := Heap.size_push ..
  show _ ∧ _
  rw [z]
  have he : IsEnum ((s.heap.push o).push { cls := .type "enumerate", data := .fields #[.none, .bool false, .ref s.heap.objs.size, rawInt 0, .none, .none] }) (s.heap.objs.size + 1) s.heap.objs.size 0 .none := by
    have t := Heap.get?_push_size (s.heap.push o) (o := { cls := .type "enumerate", data := .fields #[.none, .bool false, .ref s.heap.objs.size, rawInt 0, .none, .none] }) rfl
    rw [z] at t; exact t
  exact ⟨⟨_, he, rfl⟩, q _ he (Heap.get?_push_of_some _ (Heap.get?_push_size _ B.free)) fun b u x => Heap.get?_push_of_some _ (Heap.get?_push_of_some _ x)⟩
end
/-- the tuple at a, each item in a new pair with its place -/
def IteT (K : PySem.W.Frag) (a : Addr) : It :=
  ⟨fun i H => ∃ (xs : List V) (x : V), SqT K H a xs ∧ xs[i]? = some x, fun i H v H' => ∃ T x, v = .ref T ∧ H T = none ∧ H' = upd H T (.tup [.int (i : Nat), x]) ∧ ∀ xs, SqT K H a xs → xs[i]? = some x, fun i H => ∃ xs : List V, SqT K H a xs ∧ xs.length ≤ i⟩
theorem turn_enumT {P : Program} {w : World} {K : PySem.W.Frag} {elts : List Expr} {kk : Nat} {tpos : Pos} (a e it : Addr) :
    Turn P w K (.Tuple elts kk tpos) (IteT K a) [e, it] e (fun i h => (∃ old, IsEnum h e it ((i : Nat) : Int) old) ∧ h.IsTupleIter it a i ∧ e ≠ it ∧ a ≠ it ∧ e ≠ a) where
  mem := by simp
  obj := fun i h st b hb => by
    obtain ⟨⟨old, he⟩, ⟨o, ho, hc, hd⟩, _⟩ := st
    rcases (show b = e ∨ b = it by simpa using hb) with z | z
    · rw [z]; exact ⟨_, he, fun v q => nomatch q⟩
    · rw [z]; exact ⟨o, ho, fun v q => by rw [hd] at q; cases q⟩
  keep := fun i h h' st k => let ⟨⟨old, he⟩, hi, hne⟩ := st; ⟨⟨old, k e (by simp) _ he⟩, hi.at fun o q => k it (by simp) o q, hne⟩
  item := by
    intro X hP hw hK hc i pins s σ H E I hf st hg
    subst hP hw hK
    obtain ⟨⟨old, he⟩, hit, hne, hat, hea⟩ := st
    obtain ⟨xs, x, hq, hx⟩ := hg
    obtain ⟨its, rv, p, hz⟩ := I.tuple hq
    have len := rv.length
    have hi : i < its.length := by have := (List.getElem?_eq_some_iff.mp hx).1; omega
    have hel : e < s.heap.objs.size := Heap.lt_size he
    have hil : it < s.heap.objs.size := by obtain ⟨_, q, _⟩ := hit; exact Heap.lt_size q
    have D := Draws.tuple (prog := X.prog) (w := X.w) (A := X.A.in1) (I.ok.hd hc) it a hat its.toArray
    refine wpAny_pyNext_enum_itemC D he ⟨hit, p⟩ (by simpa using hi) hne (by simp [hne, hea]) fun y h' tk hy ho st' hT hsz hk => ?_
    refine ⟨_, rfl, wpAny_letOwnedTupleGo_enum (s := { s with heap := h', toks := tk + 1 }) ho fun h'' he' sb => ?_⟩
    have hT2 : h''.get? s.heap.objs.size = some { cls := .type "tuple", data := .seq #[.int i tk, y] } := (sb.2 _ (Nat.ne_of_gt hel)).trans hT
    obtain ⟨u, hu, ru⟩ := rv.get hx
    have ey : y = u := by
      have z : its[i]? = some y := by simpa using hy
      rw [hu] at z
      exact (Option.some.inj z).symm
    subst ey
    have new : ObjOk X.prog X.w (upd H s.heap.objs.size (.tup [.int (i : Nat), x])) h'' s.heap.objs.size (.tup [.int (i : Nat), x]) :=
      ⟨by show 2 ≤ sizeLine; decide, [.int i tk, y], .cons ⟨_, rfl⟩ (.cons ru .nil), ⟨_, hT2, rfl, _, rfl⟩⟩
    have I1 : Inv X pins σ (upd H s.heap.objs.size (.tup [.int (i : Nat), x])) { s with heap := h'', toks := tk + 1 } :=
      I.turnedNew (ch := [e, it]) (fun b ob hb q => (sb.2 b (fun z => hb (by simp [z]))).trans (hk b ob (fun z => hb (by simp [z])) (fun z => hb (by simp [z])) q)) hf (Nat.le_refl _) new
    refine ⟨.ref s.heap.objs.size, _, I1, rfl, ⟨_, x, rfl, I.hok.fresh (Nat.le_refl _), rfl, fun ys hy => by rw [I.tuple_inj hy hq]; exact hx⟩, ⟨⟨y, ?_⟩, st'.1.at fun o q => (sb.2 it (Ne.symm hne)).trans q, hne, hat, hea⟩, fun b hb => ?_⟩
    · have e1 : ((i + 1 : Nat) : Int) = (i : Int) + 1 := by omega
      rw [e1]; exact he'
    · have hb' : b < s.heap.objs.size := by
        rcases (show b = e ∨ b = it by simpa using hb) with z | z
        · rw [z]; exact hel
        · rw [z]; exact hil
      rw [upd_ne (Nat.ne_of_lt hb')]
      exact (hf b hb).1
  done := by
    intro X hP hw hK hc i pins s σ H E I hf st hg
    subst hP hw hK
    obtain ⟨⟨old, he⟩, hit, hne, hat, hea⟩ := st
    obtain ⟨xs, hq, hx⟩ := hg
    obtain ⟨its, rv, p, hz⟩ := I.tuple hq
    obtain ⟨f0, f1, f2, f3, f4, f5⟩ := hf it (by simp)
    have len := rv.length
    have D : Draws X.prog X.w X.A.in1 it [it, a] i (fun _ _ => True) (fun j h => j = i ∧ h.IsTupleIter it a i ∧ h.IsTuple a its.toArray) :=
      { live := fun _ _ st => let ⟨o, ho, _⟩ := st.2.1; ⟨o, ho⟩
        frame := fun _ _ _ st hk => ⟨st.1, st.2.1.at fun o e => hk it (by simp) o e, st.2.2.at fun o e => hk a (by simp) o e⟩
        item := fun j s Q E hj st _ => absurd st.1 (Nat.ne_of_lt hj)
        done := fun s Q E st hE => wpAny_nextOf_tuple_end (I.ok.hd hc) st.2.1 st.2.2 (by simp; omega) hE }
    exact wpAny_pyNext_enum_endD D he ⟨rfl, hit, p⟩ fun h' eb => ⟨rfl, I.turned (t' := s.toks) (fun b o hb q => eb b o hb q) f0 f1 f3 f4 f5⟩
  self := fun A i s Q E st h => let ⟨⟨_, he⟩, _⟩ := st; wpAny_pyIter_enum he h
def iEnumT (K : PySem.W.Frag) (ta : TA) : TI := fun σ H R => ta σ H fun vs H1 => ∃ a xs, vs = [.ref a] ∧ SqT K H1 a xs ∧ R (IteT K a) H1
theorem pi_enumT {X : Cx} {e : Expr} {ta : TA} {p pos tpos : Pos} {elts : List Expr} {kk : Nat} (hg : Gl X "enumerate") (hm : X.mg "enumerate" = none) (ha : PA X [e] ta) (hs : starEach [e] X.env = [(false, eval e X.env)] := by rfl) :
    PI X (.Tuple elts kk tpos) (.Call (.Name "enumerate" p) [e] [] pos) (iEnumT X.K ta) := by
  constructor
  intro pins s σ H R I h
  refine Call_ (ld_blt I hg hm boot_enumerate (PyProof.Rows.callWith_type1 (thn (ha.run pos pins s σ H _ I h) ?_) hs rfl))
  rintro us s1 ⟨vs, H1, I1, r1, a, xs, rfl, hq, q⟩
  cases r1 with
  | cons r rr =>
    cases rr
    cases r
    obtain ⟨its, rv, tu, hz⟩ := I1.tuple hq
    have al : a < s1.heap.objs.size := by obtain ⟨o, e, _⟩ := tu; exact Heap.lt_size e
    refine enum1_begins (begins_tuple a its.toArray) tu fun h' he hit hk => wpAny_pyIter_enum he ?_
    have I2 : Inv X pins σ H1 { s1 with heap := h' } := I1.kept (t' := s1.toks) hk
    refine ⟨s1.heap.objs.size + 1, [s1.heap.objs.size + 1, s1.heap.objs.size], _, _, H1, rfl, I2, turn_enumT a (s1.heap.objs.size + 1) s1.heap.objs.size, ⟨⟨.none, he⟩, ⟨_, hit, rfl, rfl⟩, Nat.succ_ne_self _, Nat.ne_of_lt al, (Nat.ne_of_lt (Nat.lt_succ_of_lt al)).symm⟩, fun b hb => ?_, q⟩
    have hle : s1.heap.objs.size ≤ b := by
      rcases (show b = s1.heap.objs.size + 1 ∨ b = s1.heap.objs.size by simpa using hb) with z | z
      · rw [z]; exact Nat.le_add_right _ _
      · rw [z]; exact Nat.le_refl _
    exact I1.fpOk hle (I1.hok.fresh hle)
theorem for_enumT {g : TG} {tb : TS} {D : Ends} {σ : L2.St} {H : Hp} {K : PySem.W.Frag} {a : Addr} {xs : List V} (Pv : Nat → L2.St → Hp → Prop) (h0 : Pv 0 σ H) (hl : ∀ i σ' H', i ≤ xs.length → Pv i σ' H' → SqT K H' a xs)
    (hs : ∀ i x σ' H' T, xs[i]? = some x → Pv i σ' H' → H' T = none → g (.ref T) σ' (upd H' T (.tup [.int (i : Nat), x])) fun σ2 H2 => tb { D with nx := Pv (i + 1), ct := Pv (i + 1), bk := D.nx } σ2 H2) (hd : ∀ σ' H', Pv xs.length σ' H' → D.nx σ' H') : forK g tb D σ (IteT K a) H := by
  refine ⟨fun i m σ H => i ≤ xs.length ∧ m = xs.length - i ∧ Pv i σ H, ⟨xs.length, Nat.zero_le _, by omega, h0⟩, ?_⟩
  rintro i m σ H ⟨hi, rfl, p⟩
  have hq := hl i σ H hi p
  rcases Nat.lt_or_ge i xs.length with h | h
  · refine Or.inr ⟨⟨xs, xs[i], hq, List.getElem?_eq_getElem h⟩, Pv (i + 1), fun σ' H' p' => ⟨xs.length - (i + 1), by omega, by omega, rfl, p'⟩, ?_⟩
    rintro v H' ⟨T, x, rfl, hT, rfl, hx⟩
    exact hs i x σ H T (hx xs hq) p hT
  · have e : i = xs.length := by omega
    subst e
    exact Or.inl ⟨⟨xs, hq, Nat.le_refl _⟩, hd σ H p⟩
end Mine
namespace Mine
open PySem PySem.Spec PyProof.Rows L2
open Evl (Ex)
structure FHeaps (K : PySem.W.Frag) : Prop where
  cl : Cls K (He.ga K "Heaps")
  na : NoAttr K (He.ga K "Heaps") "_sizes"
def hfs (t : Addr) : List (Str × V) := putF "_sizes" (.ref t) []
theorem hfs_get (t : Addr) : (hfs t).lookup ("_sizes" : Str) = some (.ref t) := by
  unfold hfs
  rw [lookup_putF, if_pos rfl]
theorem hfs_no (t : Addr) {m : Str} (h : ¬ m = "_sizes") : (hfs t).lookup m = none := by
  unfold hfs
  rw [lookup_putF, if_neg h]
  rfl
/-- a board of heaps -/
def HpAt (K : PySem.W.Frag) (H : Hp) (b : Addr) (ns : List Int) : Prop := ∃ dx t, H b = some (.ins (He.ga K "Heaps") dx (hfs t)) ∧ H t = some (.tup (ns.map V.int))
theorem HpAt.ex {K : PySem.W.Frag} {H H' : Hp} {b : Addr} {ns : List Int} (h : HpAt K H b ns) (e : Ex H H') : HpAt K H' b ns := let ⟨dx, t, h1, h2⟩ := h; ⟨dx, t, e _ _ h1, e _ _ h2⟩
def OkS (ns : List Int) : Prop := ns.length ≤ 8 ∧ ∀ z ∈ ns, 0 ≤ z ∧ z ≤ 30
end Mine
namespace Mine
open PySem PySem.Spec PyProof.Rows L2
open Evl (Ex)
/-- the sizes behind the moves, in order -/
def mvAt (ns : List Int) (i : Nat) : List (List Int) := (List.range (ns.getD i 0).toNat).map fun (j : Nat) => ns.take i ++ [(ns.getD i 0) - 1 - (j : Int)] ++ ns.drop (i + 1)
def mvs (ns : List Int) : List (List Int) := (List.range ns.length).flatMap (mvAt ns)
/-- boards of heaps of these sizes -/
def BsAt (K : PySem.W.Frag) (H : Hp) (xs : List V) (ss : List (List Int)) : Prop := xs.length = ss.length ∧ ∀ (i : Nat) (s : List Int), ss[i]? = some s → ∃ b, xs[i]? = some (.ref b) ∧ HpAt K H b s
theorem BsAt.ex {K : PySem.W.Frag} {H H' : Hp} {xs : List V} {ss : List (List Int)} (h : BsAt K H xs ss) (e : Ex H H') : BsAt K H' xs ss := ⟨h.1, fun i s q => let ⟨b, h1, h2⟩ := h.2 i s q; ⟨b, h1, h2.ex e⟩⟩
theorem BsAt.keep {K : PySem.W.Frag} {H H' : Hp} {xs : List V} {ss : List (List Int)} (h : BsAt K H xs ss) (k : ∀ c o, H c = some o → (∀ ys, o ≠ .lst ys) → H' c = some o) : BsAt K H' xs ss :=
  ⟨h.1, fun i s q => let ⟨b, h1, dx, t, h2, h3⟩ := h.2 i s q; ⟨b, h1, dx, t, k _ _ h2 (fun ys z => by cases z), k _ _ h3 (fun ys z => by cases z)⟩⟩
theorem BsAt.snoc {K : PySem.W.Frag} {H : Hp} {xs : List V} {ss : List (List Int)} {b : Addr} {s : List Int} (h : BsAt K H xs ss) (hb : HpAt K H b s) : BsAt K H (xs ++ [.ref b]) (ss ++ [s]) := by
  refine ⟨by rw [List.length_append, List.length_append, h.1]; rfl, fun i s' q => ?_⟩
  rcases Nat.lt_or_ge i ss.length with l | l
  · rw [List.getElem?_append_left l] at q
    obtain ⟨b', h1, h2⟩ := h.2 i s' q
    exact ⟨b', by rw [List.getElem?_append_left (by rw [h.1]; exact l)]; exact h1, h2⟩
  · have l2 := (List.getElem?_eq_some_iff.mp q).1
    rw [List.length_append, List.length_singleton] at l2
    have e : i = ss.length := by omega
    subst e
    rw [List.getElem?_append_right (Nat.le_refl _), Nat.sub_self] at q
    have e2 : s = s' := by injection q
    subst e2
    exact ⟨b, by rw [← h.1, List.getElem?_append_right (Nat.le_refl _), Nat.sub_self]; rfl, hb⟩
theorem okS_mv {ns : List Int} (ok : OkS ns) {i : Nat} (hi : i < ns.length) {j : Nat} (hj : j < (ns.getD i 0).toNat) : OkS (ns.take i ++ [(ns.getD i 0) - 1 - (j : Int)] ++ ns.drop (i + 1)) := by
  have hz : ns.getD i 0 ∈ ns := by
    rw [List.getD_eq_getElem?_getD, List.getElem?_eq_getElem hi]
    exact List.getElem_mem hi
  have bz := ok.2 _ hz
  refine ⟨?_, fun z m => ?_⟩
  · have := ok.1
    rw [List.length_append, List.length_append, List.length_take, List.length_drop, List.length_singleton]
    omega
  · rcases List.mem_append.mp m with m | m
    · rcases List.mem_append.mp m with m | m
      · exact ok.2 z (List.mem_of_mem_take m)
      · rw [List.mem_singleton.mp m]; omega
    · exact ok.2 z (List.mem_of_mem_drop m)
end Mine
namespace Mine
open PySem PySem.Spec PyProof.Rows L2
section
variable {σ : L2.St} {H : Hp} {K : PySem.W.Frag}
theorem k_star {te : TE} {t : TA} {Q : List V → Hp → Prop} (q : te σ H fun y H1 => ∃ a xs, y = V.ref a ∧ (SqT K H1 a xs ∨ SqL K H1 a xs) ∧ t σ H1 fun vs H2 => Q (xs ++ vs) H2) : StX.tStar K te t σ H Q := q
theorem k_enumT {ta : TA} {R : It → Hp → Prop} (q : ta σ H fun vs H1 => ∃ a xs, vs = [.ref a] ∧ SqT K H1 a xs ∧ R (IteT K a) H1) : iEnumT K ta σ H R := q
end
end Mine
namespace Mine
open PySem PySem.Spec PyProof.Rows L2
open Evl (Ex)
theorem k_slA {K : PySem.W.Frag} {H : Hp} {Q : VK} {a : Addr} {xs : List V} {lo hi : Option Int} (h : SqT K H a xs) (q : ∀ p H', Ex H H' → SqT K H' p (cutV xs lo hi) → Q (.ref p) H') : rSlA K (.ref a) lo hi H Q := by
  refine ⟨a, xs, rfl, h, fun w => q a H (Evl.Ex.refl H) ?_, fun _ p n => q p _ (Evl.Ex.new n) (k_st upd_same)⟩
  have e : cutV xs lo hi = xs := by
    unfold cutV
    rw [w.1, w.2, List.drop_zero, Nat.sub_zero, List.take_of_length_le (Nat.le_refl _)]
  rw [e]; exact h
theorem cut_to {ns : List Int} {i : Nat} (h : i ≤ ns.length) : cutV (ns.map V.int) none (some (i : Int)) = (ns.take i).map V.int := by
  unfold cutV
  rw [HT.sIx_none, HT.sIx_nat, List.length_map, Nat.min_eq_left h, List.drop_zero, Nat.sub_zero, List.map_take]
theorem cut_on {ns : List Int} {i : Nat} (h : i ≤ ns.length) : cutV (ns.map V.int) (some (i : Int)) none = (ns.drop i).map V.int := by
  unfold cutV
  rw [HT.sIx_none, HT.sIx_nat, List.length_map, Nat.min_eq_left h, List.take_of_length_le (by rw [List.length_drop, List.length_map]; exact Nat.le_refl _), List.map_drop]
end Mine
namespace Mine
open PySem PySem.Spec PyProof.Rows L2
open Evl (Ex)
theorem k_slH {K : PySem.W.Frag} {H : Hp} {Q : VK} {a : Addr} {xs : List V} {lo hi : Option Int} (h : H a = some (.tup xs)) (q : ∀ p H', Ex H H' → H' p = some (.tup (cutV xs lo hi)) → Q (.ref p) H') : rSlA K (.ref a) lo hi H Q := by
  refine ⟨a, xs, rfl, k_st h, fun w => q a H (Evl.Ex.refl H) ?_, fun _ p n => q p _ (Evl.Ex.new n) upd_same⟩
  have e : cutV xs lo hi = xs := by
    unfold cutV
    rw [w.1, w.2, List.drop_zero, Nat.sub_zero, List.take_of_length_le (Nat.le_refl _)]
  rw [e]; exact h
theorem k_catH {K : PySem.W.Frag} {H : Hp} {Q : VK} {a b : Addr} {xs ys : List V} (h1 : H a = some (.tup xs)) (h2 : H b = some (.tup ys)) (l : xs.length + ys.length ≤ sizeLine) (q : ∀ p H', Ex H H' → H' p = some (.tup (xs ++ ys)) → Q (.ref p) H') : rCatA K (.ref a) (.ref b) H Q :=
  ⟨a, b, xs, ys, rfl, rfl, k_st h1, k_st h2, l, fun e => q b H (Evl.Ex.refl H) (by rw [e]; exact h2), fun _ e => q a H (Evl.Ex.refl H) (by rw [e, List.append_nil]; exact h1), fun _ _ p n => q p _ (Evl.Ex.new n) upd_same⟩
/-- the pairs that are due -/
def DuP (H : Hp) (d : Addr) (s : List Int) : Prop := ∃ u, H d = some (.tup [.str "heaps", .ref u]) ∧ H u = some (.tup (s.map V.int))
theorem DuP.ex {H H' : Hp} {d : Addr} {s : List Int} (h : DuP H d s) (e : Ex H H') : DuP H' d s := let ⟨u, h1, h2⟩ := h; ⟨u, e _ _ h1, e _ _ h2⟩
def DsAt (H : Hp) (xs : List V) (ss : List (List Int)) : Prop := xs.length = ss.length ∧ ∀ (i : Nat) (s : List Int), ss[i]? = some s → ∃ b, xs[i]? = some (.ref b) ∧ DuP H b s
theorem DsAt.ex {H H' : Hp} {xs : List V} {ss : List (List Int)} (h : DsAt H xs ss) (e : Ex H H') : DsAt H' xs ss := ⟨h.1, fun i s q => let ⟨b, h1, h2⟩ := h.2 i s q; ⟨b, h1, h2.ex e⟩⟩
theorem DsAt.keep {H H' : Hp} {xs : List V} {ss : List (List Int)} (h : DsAt H xs ss) (k : ∀ c o, H c = some o → (∀ ys, o ≠ .lst ys) → H' c = some o) : DsAt H' xs ss :=
  ⟨h.1, fun i s q => let ⟨b, h1, u, h2, h3⟩ := h.2 i s q; ⟨b, h1, u, k _ _ h2 (fun ys z => by cases z), k _ _ h3 (fun ys z => by cases z)⟩⟩
theorem DsAt.snoc {H : Hp} {xs : List V} {ss : List (List Int)} {b : Addr} {s : List Int} (h : DsAt H xs ss) (hb : DuP H b s) : DsAt H (xs ++ [.ref b]) (ss ++ [s]) := by
  refine ⟨by rw [List.length_append, List.length_append, h.1]; rfl, fun i s' q => ?_⟩
  rcases Nat.lt_or_ge i ss.length with l | l
  · rw [List.getElem?_append_left l] at q
    obtain ⟨b', h1, h2⟩ := h.2 i s' q
    exact ⟨b', by rw [List.getElem?_append_left (by rw [h.1]; exact l)]; exact h1, h2⟩
  · have l2 := (List.getElem?_eq_some_iff.mp q).1
    rw [List.length_append, List.length_singleton] at l2
    have e : i = ss.length := by omega
    subst e
    rw [List.getElem?_append_right (Nat.le_refl _), Nat.sub_self] at q
    have e2 : s = s' := by injection q
    subst e2
    exact ⟨b, by rw [← h.1, List.getElem?_append_right (Nat.le_refl _), Nat.sub_self]; rfl, hb⟩
end Mine
namespace Mine
open PySem PySem.Spec PyProof.Rows L2
open Evl (Ex)
/-- a new object, by the name of the heap that holds it -/
theorem upd_ex {H : Hp} {p : Addr} {o : HO} (np : H p = none) : ∃ H', upd H p o = H' ∧ Ex H H' ∧ H' p = some o := ⟨_, rfl, Evl.Ex.new np, upd_same⟩
theorem nx {H H' : Hp} {p : Addr} {o : HO} (np : H p = none) (h : upd H p o = H') : Ex H H' := h ▸ Evl.Ex.new np
theorem nS {H H' : Hp} {p : Addr} {o : HO} (h : upd H p o = H') : H' p = some o := h ▸ upd_same
section
variable {H : Hp} {K : PySem.W.Frag} {Q : VK}
theorem n_sl {a : Addr} {xs : List V} {lo hi : Option Int} (h : SqL K H a xs) (q : ∀ p H', H p = none → Ex H H' → H' p = some (.lst (cutV xs lo hi)) → Q (.ref p) H') : rSlL K (.ref a) lo hi H Q :=
  k_slL h fun p np => q p _ np (Evl.Ex.new np) upd_same
theorem n_cat {a b : Addr} {xs ys : List V} (h1 : H a = some (.lst xs)) (h2 : H b = some (.lst ys)) (l : xs.length + ys.length ≤ sizeLine) (q : ∀ p H', H p = none → Ex H H' → H' p = some (.lst (xs ++ ys)) → Q (.ref p) H') : rCat (.ref a) (.ref b) H Q :=
  k_rCat h1 h2 l fun p np => q p _ np (Evl.Ex.new np) upd_same
theorem n_rep {a : Addr} {k : Int} {xs : List V} (h : H a = some (.lst xs)) (b1 : -(2 ^ 63) ≤ k) (b2 : k < 2 ^ 63) (l : xs.length * k.toNat ≤ sizeLine) (q : ∀ p H', H p = none → Ex H H' → H' p = some (.lst (List.replicate k.toNat xs).flatten) → Q (.ref p) H') : rRep (.ref a) (.int k) H Q :=
  ⟨a, k, xs, rfl, rfl, h, b1, b2, l, fun p np => q p _ np (Evl.Ex.new np) upd_same⟩
theorem n_tupL {a : Addr} {xs : List V} (h : SqL K H a xs) (q : ∀ p H', H p = none → Ex H H' → H' p = some (.tup xs) → Q (.ref p) H') : rTupL K [.ref a] H Q :=
  k_rTupL h fun p np => q p _ np (Evl.Ex.new np) upd_same
theorem n_listL {a : Addr} {xs : List V} (h : SqL K H a xs) (q : ∀ p H', H p = none → Ex H H' → H' p = some (.lst xs) → Q (.ref p) H') : rListQ K [.ref a] H Q :=
  k_rListL h fun p np => q p _ np (Evl.Ex.new np) upd_same
theorem n_listT {a : Addr} {xs : List V} (h : SqT K H a xs) (q : ∀ p H', H p = none → Ex H H' → H' p = some (.lst xs) → Q (.ref p) H') : rListQ K [.ref a] H Q :=
  k_rListT h fun p np => q p _ np (Evl.Ex.new np) upd_same
theorem fits {n : Nat} (h : n ≤ 3000) : n ≤ sizeLine := Nat.le_trans h (by decide)
theorem fits' {n : Nat} (h : n ≤ 3000) : n < sizeLine := Nat.lt_of_le_of_lt h (by decide)
end
theorem cut_cut {xs : List V} {i : Nat} (h : i ≤ xs.length) : cutV xs none (some (i : Int)) = xs.take i := by
  unfold cutV
  rw [HT.sIx_none, HT.sIx_nat, Nat.min_eq_left h, List.drop_zero, Nat.sub_zero]
theorem cut_all {xs : List V} {i : Nat} (h : xs.length ≤ i) : cutV xs none (some (i : Int)) = xs := by
  unfold cutV
  rw [HT.sIx_none, HT.sIx_nat, Nat.min_eq_right h, List.drop_zero, Nat.sub_zero, List.take_of_length_le (Nat.le_refl _)]
theorem cut_min {xs : List V} {i : Nat} : cutV xs none (some (i : Int)) = xs.take i := by
  rcases Nat.le_total i xs.length with h | h
  · exact cut_cut h
  · rw [cut_all h, List.take_of_length_le h]
theorem cut_off {xs : List V} {i : Nat} (h : i ≤ xs.length) : cutV xs (some (i : Int)) none = xs.drop i := by
  unfold cutV
  rw [HT.sIx_none, HT.sIx_nat, Nat.min_eq_left h, List.take_of_length_le (by rw [List.length_drop]; exact Nat.le_refl _)]
end Mine
namespace Mine
open PySem PySem.Spec PyProof.Rows L2
open Evl (Ex)
/-- one turn makes an item with a property -/
def turnQ (g : TG) (tt : TT) (te : TE) (vs : List Nat) (σ : L2.St) (x : V) (P : V → Hp → Prop) (H1 : Hp) : Prop := ∀ H', Ex H1 H' → ∀ R : Option V → Hp → Prop, (∀ y H'', Ex H' H'' → P y H'' → R (some y) H'') →
  g x (wipe σ vs) H' fun σ2 H2 => wipe σ2 vs = wipe σ vs ∧ tt σ2 H2 fun b H3 => if b = true then te σ2 H3 fun y H4 => R (some y) H4 else R none H3
/-- what holds of an item while nothing but lists changes -/
def Lasts (P : V → V → Hp → Prop) : Prop := ∀ (x y : V) (H H' : Hp), P x y H → (∀ c o, H c = some o → (∀ ys, o ≠ .lst ys) → H' c = some o) → P x y H'
section
variable {g : TG} {tt : TT} {te : TE} {vs : List Nat} {σ : L2.St} {Q : VK} {H1 : Hp} {K : PySem.W.Frag}
theorem turnQ_in {x : V} {P : V → Hp → Prop} {D : Addr} {acc : List V} {H : Hp} {Nx : Hp → Prop} (t : turnQ g tt te vs σ x P H1) (e : Ex H1 H) (hD : H1 D = none) (a : H D = some (.lst acc)) (len : acc.length < sizeLine)
    (nx : ∀ y H2 H', Ex H H2 → P y H2 → Ex H1 H' → H' D = some (.lst (acc ++ [y])) → (∀ c o, H2 c = some o → (∀ ys, o ≠ .lst ys) → H' c = some o) → Nx H') :
    g x (wipe σ vs) H fun σ2 H2 => wipe σ2 vs = wipe σ vs ∧ tt σ2 H2 fun b H3 => if b = true then te σ2 H3 fun y H4 => ∃ acc, H4 D = some (.lst acc) ∧ acc.length < sizeLine ∧ Nx (upd H4 D (.lst (acc ++ [y]))) else Nx H3 := by
  have no : ∀ o' : Option V, o' = none → ∀ H4 : Hp, True := fun _ _ _ => trivial
  refine (fun z => ?_) (t H e (fun o' H4 => match o' with | some y => ∃ acc, H4 D = some (.lst acc) ∧ acc.length < sizeLine ∧ Nx (upd H4 D (.lst (acc ++ [y]))) | none => Nx H4) fun y H'' e2 p => ?_)
  · exact z
  · refine ⟨acc, e2 _ _ a, len, nx y H'' _ e2 p (Evl.Ex.mut (e.trans e2) hD) upd_same fun c o q n => (upd_ne fun z => ?_).trans q⟩
    rw [z, e2 _ _ a] at q
    exact n _ (Option.some.inj q).symm
theorem lcQ_tup {a : Addr} {xs : List V} (P : V → V → Hp → Prop) (La : Lasts P) (hS : SqT K H1 a xs) (len : xs.length < sizeLine) (t : ∀ (i : Nat) (x : V), xs[i]? = some x → turnQ g tt te vs σ x (P x) H1)
    (q : ∀ D ys H', H1 D = none → Ex H1 H' → H' D = some (.lst ys) → ys.length = xs.length → (∀ (i : Nat) (x : V), xs[i]? = some x → ∃ y, ys[i]? = some y ∧ P x y H') → Q (.ref D) H') : lcR g tt te vs σ Q (Itt K a) H1 := by
  intro D hD
  refine lc_tup (K := K) (a := a) (xs := xs) (fun i H => ∃ ys, Ex H1 H ∧ H D = some (.lst ys) ∧ ys.length = i ∧ ∀ (j : Nat) (x : V), j < i → xs[j]? = some x → ∃ y, ys[j]? = some y ∧ P x y H) ⟨[], Evl.Ex.new hD, upd_same, rfl, fun j x h => absurd h (Nat.not_lt_zero _)⟩ (fun i H _ ⟨_, e, _⟩ => Evl.ex_t e hS) (fun i x H hx p => ?_) (fun H p => ?_)
  · obtain ⟨ys, e, hd, yl, ok⟩ := p
    have hi := (List.getElem?_eq_some_iff.mp hx).1
    refine turnQ_in (t i x hx) e hD hd (by omega) fun y H2 H' e2 py e' hd' kp => ⟨ys ++ [y], e', hd', by rw [List.length_append, yl]; rfl, fun j x' hj hx' => ?_⟩
    rcases Nat.lt_or_ge j i with l | l
    · obtain ⟨y', h1, h2⟩ := ok j x' l hx'
      exact ⟨y', by rw [List.getElem?_append_left (by omega)]; exact h1, La _ _ _ _ h2 fun c o q n => kp c o (e2 _ _ q) n⟩
    · have ej : j = i := by omega
      subst ej
      rw [hx] at hx'
      injection hx' with hx'
      subst hx'
      exact ⟨y, by rw [← yl, List.getElem?_append_right (Nat.le_refl _), Nat.sub_self]; rfl, La _ _ _ _ py kp⟩
  · obtain ⟨ys, e, hd, yl, ok⟩ := p
    exact q D ys H hD e hd yl fun i x hx => ok i x (List.getElem?_eq_some_iff.mp hx).1 hx
theorem lcQ_list {a : Addr} {xs : List V} (P : V → V → Hp → Prop) (La : Lasts P) (hS : SqL K H1 a xs) (len : xs.length < sizeLine) (t : ∀ (i : Nat) (x : V), xs[i]? = some x → turnQ g tt te vs σ x (P x) H1)
    (q : ∀ D ys H', H1 D = none → Ex H1 H' → H' D = some (.lst ys) → ys.length = xs.length → (∀ (i : Nat) (x : V), xs[i]? = some x → ∃ y, ys[i]? = some y ∧ P x y H') → Q (.ref D) H') : lcR g tt te vs σ Q (Itl K a) H1 := by
  intro D hD
  refine lc_list (K := K) (a := a) (xs := xs) (fun i H => ∃ ys, Ex H1 H ∧ H D = some (.lst ys) ∧ ys.length = i ∧ ∀ (j : Nat) (x : V), j < i → xs[j]? = some x → ∃ y, ys[j]? = some y ∧ P x y H) ⟨[], Evl.Ex.new hD, upd_same, rfl, fun j x h => absurd h (Nat.not_lt_zero _)⟩ (fun i H _ ⟨_, e, _⟩ => Evl.ex_l e hS) (fun i x H hx p => ?_) (fun H p => ?_)
  · obtain ⟨ys, e, hd, yl, ok⟩ := p
    have hi := (List.getElem?_eq_some_iff.mp hx).1
    refine turnQ_in (t i x hx) e hD hd (by omega) fun y H2 H' e2 py e' hd' kp => ⟨ys ++ [y], e', hd', by rw [List.length_append, yl]; rfl, fun j x' hj hx' => ?_⟩
    rcases Nat.lt_or_ge j i with l | l
    · obtain ⟨y', h1, h2⟩ := ok j x' l hx'
      exact ⟨y', by rw [List.getElem?_append_left (by omega)]; exact h1, La _ _ _ _ h2 fun c o q n => kp c o (e2 _ _ q) n⟩
    · have ej : j = i := by omega
      subst ej
      rw [hx] at hx'
      injection hx' with hx'
      subst hx'
      exact ⟨y, by rw [← yl, List.getElem?_append_right (Nat.le_refl _), Nat.sub_self]; rfl, La _ _ _ _ py kp⟩
  · obtain ⟨ys, e, hd, yl, ok⟩ := p
    exact q D ys H hD e hd yl fun i x hx => ok i x (List.getElem?_eq_some_iff.mp hx).1 hx
/-- a plain item: no test, one name -/
theorem turnQ_map {i : Nat} {x : V} {P : V → Hp → Prop} (h : ∀ H', Ex H1 H' → ∀ R : VK, (∀ y H'', Ex H' H'' → P y H'' → R y H'') → te ((wipe σ [i]).set i (some x)) H' R) (w : wipe ((wipe σ [i]).set i (some x)) [i] = wipe σ [i] := by rfl) : turnQ (gName i) tYes te [i] σ x P H1 :=
  fun H' e R r => ⟨w, h H' e _ fun y H'' e2 p => r y H'' e2 p⟩
end
end Mine
namespace Mine
open PySem PySem.Spec PyProof.Rows L2
open Evl (Ex)
/-! a law's own list of forms: refs to pairs of lists of ints -/
/-- all but the addresses of Z stays -/
def Keep (Z : Addr → Prop) (H H' : Hp) : Prop := ∀ c o, H c = some o → ¬ Z c → H' c = some o
theorem Keep.of {Z : Addr → Prop} {H H' : Hp} (e : Ex H H') : Keep Z H H' := fun c o h _ => e c o h
theorem Keep.trans {Z : Addr → Prop} {H H1 H2 : Hp} (a : Keep Z H H1) (b : Keep Z H1 H2) : Keep Z H H2 := fun c o h n => b c o (a c o h n) n
def FormAt (Z : Addr → Prop) (H : Hp) (a : Addr) (g : Pr) : Prop := ∃ c d, H a = some (.tup [.ref c, .ref d]) ∧ H c = some (.lst (g.1.map V.int)) ∧ H d = some (.lst (g.2.map V.int)) ∧ ¬ Z c ∧ ¬ Z d
def FormsAt (Z : Addr → Prop) (H : Hp) (xs : List V) (G : List Pr) : Prop := xs.length = G.length ∧ ∀ (i : Nat) (g : Pr), G[i]? = some g → ∃ a, xs[i]? = some (.ref a) ∧ FormAt Z H a g
def ModAt (Z : Addr → Prop) (H : Hp) (m : Addr) (G : List Pr) : Prop := ∃ xs, H m = some (.lst xs) ∧ FormsAt Z H xs G
theorem FormAt.keep {Z : Addr → Prop} {H H' : Hp} {a : Addr} {g : Pr} (f : FormAt Z H a g) (k : Keep Z H H') (t : ∀ c ys, H c = some (.tup ys) → H' c = some (.tup ys)) : FormAt Z H' a g :=
  let ⟨c, d, h1, h2, h3, z1, z2⟩ := f
  ⟨c, d, t _ _ h1, k _ _ h2 z1, k _ _ h3 z2, z1, z2⟩
theorem FormsAt.keep {Z : Addr → Prop} {H H' : Hp} {xs : List V} {G : List Pr} (f : FormsAt Z H xs G) (k : Keep Z H H') (t : ∀ c ys, H c = some (.tup ys) → H' c = some (.tup ys)) : FormsAt Z H' xs G :=
  ⟨f.1, fun i g h => let ⟨a, h1, h2⟩ := f.2 i g h; ⟨a, h1, h2.keep k t⟩⟩
theorem FormsAt.ex {Z : Addr → Prop} {H H' : Hp} {xs : List V} {G : List Pr} (f : FormsAt Z H xs G) (e : Ex H H') : FormsAt Z H' xs G := f.keep (Keep.of e) fun c ys h => e _ _ h
theorem ModAt.up {Z : Addr → Prop} {H H' : Hp} {m : Addr} {G : List Pr} (f : ModAt Z H m G) (e : Ex H H') : ModAt Z H' m G := let ⟨xs, h1, h2⟩ := f; ⟨xs, e _ _ h1, h2.ex e⟩
/-- data of a form -/
def formD (g : Pr) : PyData := .tuple [.list (g.1.map .int), .list (g.2.map .int)]
theorem dp_ints {K : PySem.W.Frag} {H : Hp} : ∀ ns : List Int, DpAll K H (ns.map V.int) (ns.map .int)
  | [] => .nil
  | x :: xs => .cons (.int x) (dp_ints xs)
theorem FormAt.dp {K : PySem.W.Frag} {Z : Addr → Prop} {H : Hp} {a : Addr} {g : Pr} (f : FormAt Z H a g) : Dp K H (.ref a) (formD g) :=
  let ⟨c, d, h1, h2, h3, _⟩ := f
  .tup (k_st h1) (.cons (.lst (k_sq h2) (dp_ints _)) (.cons (.lst (k_sq h3) (dp_ints _)) .nil))
theorem eqv_form (g h : Pr) : PyData.eqv (formD g) (formD h) = decide (g = h) := by
  unfold formD
  simp only [PyData.eqv, PyData.eqvAll, PySem.W.ked_eqvAll]
  obtain ⟨a, b⟩ := g
  obtain ⟨c, d⟩ := h
  by_cases h1 : a = c <;> by_cases h2 : b = d <;> simp [h1, h2]
theorem lay_ints : ∀ ns : List Int, PyData.canLayAll0 (ns.map .int) = true
  | [] => rfl
  | x :: xs => by
    simp only [List.map_cons, PyData.canLayAll0, PyData.canLay0, lay_ints xs]
    rfl
theorem deep_ints : ∀ ns : List Int, PyData.depthAll (ns.map .int) = 0
  | [] => by simp only [List.map_nil, PyData.depthAll]
  | x :: xs => by simp only [List.map_cons, PyData.depthAll, PyData.depth, deep_ints xs]; rfl
theorem shaped_form (g : Pr) : SeqAt.shaped (formD g) = true := by
  unfold formD SeqAt.shaped
  simp only [PyData.canLay0, PyData.depth, PyData.canLayAll0, PyData.depthAll, lay_ints, deep_ints]
  rfl
theorem shaped_ints (ns : List Int) : SeqAt.shaped (.list (ns.map .int)) = true := by
  unfold SeqAt.shaped
  simp only [PyData.canLay0, PyData.depth, lay_ints, deep_ints]
  rfl
theorem eqv_ints (a b : List Int) : PyData.eqv (.list (a.map .int)) (.list (b.map .int)) = decide (a = b) := by
  simp only [PyData.eqv, PySem.W.ked_eqvAll]
/-- a list of two lists of ints -/
def twoD (g : Pr) : PyData := .list [.list (g.1.map .int), .list (g.2.map .int)]
theorem eqv_two (g h : Pr) : PyData.eqv (twoD g) (twoD h) = decide (g = h) := by
  unfold twoD
  simp only [PyData.eqv, PyData.eqvAll, PySem.W.ked_eqvAll]
  obtain ⟨a, b⟩ := g
  obtain ⟨c, d⟩ := h
  by_cases h1 : a = c <;> by_cases h2 : b = d <;> simp [h1, h2]
theorem shaped_two (g : Pr) : SeqAt.shaped (twoD g) = true := by
  unfold twoD SeqAt.shaped
  simp only [PyData.canLay0, PyData.depth, PyData.canLayAll0, PyData.depthAll, lay_ints, deep_ints]
  rfl
section
variable {K : PySem.W.Frag} {H : Hp} {Q : VK}
theorem k_eqF {Z Z' : Addr → Prop} {a b : Addr} {g h : Pr} (f1 : FormAt Z H a g) (f2 : FormAt Z' H b h) (q : Q (.bl (decide (g = h))) H) : rEqD K (.ref a) (.ref b) H Q :=
  ⟨formD g, formD h, f1.dp, f2.dp, shaped_form g, shaped_form h, by rw [eqv_form]; exact q⟩
theorem k_eqIs {a b : Addr} {g h : List Int} (f1 : SqL K H a (g.map V.int)) (f2 : SqL K H b (h.map V.int)) (q : Q (.bl (decide (g = h))) H) : rEqD K (.ref a) (.ref b) H Q :=
  ⟨_, _, .lst f1 (dp_ints g), .lst f2 (dp_ints h), shaped_ints g, shaped_ints h, by rw [eqv_ints]; exact q⟩
theorem k_neTwo {a b c d e f : Addr} {g h : Pr} (f1 : SqL K H a [.ref c, .ref d]) (f2 : SqL K H b [.ref e, .ref f]) (hc : SqL K H c (g.1.map V.int)) (hd : SqL K H d (g.2.map V.int)) (he : SqL K H e (h.1.map V.int)) (hf : SqL K H f (h.2.map V.int))
    (q : Q (.bl (!decide (g = h))) H) : rNeD K (.ref a) (.ref b) H Q :=
  ⟨twoD g, twoD h, .lst f1 (.cons (.lst hc (dp_ints _)) (.cons (.lst hd (dp_ints _)) .nil)), .lst f2 (.cons (.lst he (dp_ints _)) (.cons (.lst hf (dp_ints _)) .nil)), shaped_two g, shaped_two h, by rw [eqv_two]; exact q⟩
end
section
variable {g : TG} {tt : TT} {te : TE} {vs : List Nat} {σ : L2.St} {Q : VK} {H1 : Hp} {K : PySem.W.Frag} {wi : TI}
theorem turn_flt {i : Nat} {x : V} {b : Bool} (h : ∀ H', Ex H1 H' → ∀ R : Bool → Hp → Prop, R b H' → tt ((wipe σ [i]).set i (some x)) H' R) (w : wipe ((wipe σ [i]).set i (some x)) [i] = wipe σ [i] := by rfl) (v : ((wipe σ [i]).set i (some x))[i]? = some (some x) := by rfl) :
    turnR (gName i) tt (tVar i) [i] σ x (if b = true then some x else none) H1 :=
  fun H' e R r => ⟨w, h H' e _ (by
    cases b
    · exact r H' (Evl.Ex.refl _)
    · exact ⟨x, v, r H' (Evl.Ex.refl _)⟩)⟩
/-- the members of a range that a test keeps -/
def kept (n : Nat) (p : Nat → Bool) : List Int := ((List.range n).filter p).map fun i : Nat => (i : Int)
theorem kept_map (n : Nat) (p : Nat → Bool) : (List.range n).filterMap (fun i => if p i = true then some (V.int (i : Int)) else none) = (kept n p).map V.int := by
  unfold kept
  induction (List.range n) with
  | nil => rfl
  | cons x xs ih =>
    rw [List.filterMap_cons, List.filter_cons]
    by_cases h : p x = true
    · rw [if_pos h, if_pos h, List.map_cons, List.map_cons, ← ih]
    · rw [if_neg h, if_neg h, ← ih]
theorem mem_kept {n : Nat} {p : Nat → Bool} {x : Int} : x ∈ kept n p ↔ ∃ i : Nat, x = i ∧ i < n ∧ p i = true := by
  unfold kept
  rw [List.mem_map]
  constructor
  · rintro ⟨i, h, rfl⟩
    rw [List.mem_filter, List.mem_range] at h
    exact ⟨i, rfl, h.1, h.2⟩
  · rintro ⟨i, rfl, h1, h2⟩
    exact ⟨i, by rw [List.mem_filter, List.mem_range]; exact ⟨h1, h2⟩, rfl⟩
theorem kept_asc (n : Nat) (p : Nat → Bool) : Asc n (kept n p) := by
  refine ⟨?_, fun x m => ?_⟩
  · unfold kept
    rw [List.pairwise_map]
    refine List.Pairwise.imp (fun h => Int.ofNat_lt.mpr h) (List.Pairwise.filter p ?_)
    first | exact List.pairwise_lt_range | exact List.pairwise_lt_range _
  · obtain ⟨i, rfl, h, _⟩ := mem_kept.mp m
    omega
theorem cut_ints (ls : List Int) (lo hi : Option Int) : ∃ l' : List Int, cutV (ls.map V.int) lo hi = l'.map V.int ∧ (∀ x ∈ l', x ∈ ls) ∧ l'.length ≤ ls.length := by
  unfold cutV
  refine ⟨(ls.drop _).take _, by rw [List.map_take, List.map_drop], fun x m => List.mem_of_mem_drop (List.mem_of_mem_take m), ?_⟩
  rw [List.length_take, List.length_drop]
  omega
theorem cut_last {ls : List Int} (h : ls ≠ []) : ∃ l' : List Int, cutV (ls.map V.int) (some (-3)) none = l'.map V.int ∧ (∀ x ∈ l', x ∈ ls) ∧ l' ≠ [] := by
  refine ⟨(ls.drop _).take _, by unfold cutV; rw [List.map_take, List.map_drop], fun x m => List.mem_of_mem_drop (List.mem_of_mem_take m), fun e => ?_⟩
  have hl : 0 < ls.length := List.length_pos_iff.mpr h
  have z := congrArg List.length e
  rw [List.length_take, List.length_drop, List.length_map, HT.sIx_none] at z
  have s : HT.sIx ls.length 0 (some (-3)) = (-3 + (ls.length : Int)).toNat := by
    show (if (-3 : Int) < 0 then (-3 + (ls.length : Int)).toNat else min (-3 : Int).toNat ls.length) = _
    rw [if_pos (by decide)]
  rw [s, List.length_nil] at z
  omega
theorem rng_map (n : Nat) (f : Nat → Int) : (List.range n).filterMap (fun i => some (V.int (f i))) = ((List.range n).map f).map V.int := by
  induction (List.range n) with
  | nil => rfl
  | cons x xs ih => rw [List.filterMap_cons, List.map_cons, List.map_cons, ← ih]
theorem atI_in {ls : List Int} {k : Int} (h0 : 0 ≤ k) (h1 : k < ls.length) : ∃ z, z ∈ ls ∧ atI (ls.map V.int) k = some (.int z) ∧ z = ls.getD k.toNat 0 := by
  obtain ⟨z, hz, e⟩ := at_int h0 h1
  exact ⟨z, List.mem_of_getElem? hz, e, by rw [List.getD_eq_getElem?_getD, hz]; rfl⟩
end
theorem dg_of {ds : List Int} (hd : ∀ d ∈ ds, 0 ≤ d ∧ d < 60) {k : Int} (h0 : 0 ≤ k) (hk : k < ds.length) : ∃ z, atI (ds.map V.int) k = some (.int z) ∧ (0 ≤ z ∧ z < 60) ∧ z = ds.getD k.toNat 0 := by
  obtain ⟨z, m, e, f⟩ := atI_in h0 hk
  exact ⟨z, e, hd z m, f⟩
/-- the height that a law reckons of a new game -/
def HgtL (G : List Pr) (hs : List Int) (p : Pr) (hs' : List Int) : Prop := (p ∈ G ∧ hs' = hs) ∨ (p ∉ G ∧ ∃ m, hs' = hs ++ [m] ∧ m ∈ (0 :: (p.1 ++ p.2).map fun k => 1 + hat hs k) ∧ ∀ y ∈ (0 :: (p.1 ++ p.2).map fun k => 1 + hat hs k), y ≤ m)
section
variable {P : Program} {w : World} {K : PySem.W.Frag} {H H' : Hp} {F : Foot} {G : List Pr} {hs : List Int} {ts : List (Key × V)}
theorem k_if2 {b : Bool} {x y : V} {σ : L2.St} {Q : VK} (q : ∀ v, v = x ∨ v = y → Q v H) : if b = true then tC x σ H Q else tC y σ H Q := by
  cases b
  · exact q y (Or.inr rfl)
  · exact q x (Or.inl rfl)
theorem k_revL {te : TE} {σ : L2.St} {Q : VK} (q : te σ H fun x H1 => ∃ a xs, x = .ref a ∧ SqL K H1 a xs ∧ ∀ p, H1 p = none → Q (.ref p) (upd H1 p (.lst xs.reverse))) : tRevL K te σ H Q := q
theorem sql_keep {Z : Addr → Prop} {a : Addr} {xs : List V} (h : SqL K H a xs) (k : Keep Z H H') (z : ∀ o, H a = some o → ¬ Z a) : SqL K H' a xs := by
  rcases h with (h | ⟨o, h⟩) | h
  · exact Or.inl (Or.inl (k _ _ h (z _ h)))
  · exact Or.inl (Or.inr ⟨o, k _ _ h (z _ h)⟩)
  · exact Or.inr h
/-- one list, not the yard's, is changed -/
theorem YardAt.but (Y : YardAt P w K H F G hs ts) {p : Addr} {ys : List V} (hp : H p = some (.lst ys)) (off : Off F p) (k : ∀ c o, H c = some o → c ≠ p → H' c = some o) : YardAt P w K H' F G hs ts := by
  obtain ⟨o1, o2, o3, o4, o5⟩ := off
  have t : ∀ c zs, H c = some (.tup zs) → H' c = some (.tup zs) := fun c zs z => k _ _ z (ne_of z hp (by intro y; cases y))
  exact ⟨k _ _ Y.ins (ne_of Y.ins hp (by intro y; cases y)), let ⟨xs, h1, h2⟩ := Y.ls; ⟨xs, k _ _ h1 o1.symm, h2.ex t⟩, let ⟨xs, h1, h2⟩ := Y.rs; ⟨xs, k _ _ h1 o2.symm, h2.ex t⟩, ⟨k _ _ Y.hs.1 o3.symm, Y.hs.2⟩,
    let ⟨kvs, h1, h2, h3⟩ := Y.ns; ⟨kvs, k _ _ h1 o4.symm, fun x m => (h2 x m).ex t, h3⟩, k _ _ Y.ts o5.symm, Y.ne, Y.ht, Y.G⟩
end
/-- 0, 1, .. below n -/
def nums (n : Nat) : List Int := (List.range n).map fun i : Nat => (i : Int)
theorem nums_len (n : Nat) : (nums n).length = n := by unfold nums; rw [List.length_map, List.length_range]
theorem nums_at {n : Nat} {k : Int} (h0 : 0 ≤ k) (h1 : k < n) : atI ((nums n).map V.int) k = some (V.int k) := by
  obtain ⟨z, hz, e⟩ := at_int (ns := nums n) h0 (by rw [nums_len]; exact h1)
  rw [e]
  unfold nums at hz
  rw [List.getElem?_map, List.getElem?_range (by omega)] at hz
  have hz : ((k.toNat : Nat) : Int) = z := Option.some.inj hz
  rw [← hz, show ((k.toNat : Nat) : Int) = k by omega]
theorem nums_succ (n : Nat) : nums (n + 1) = nums n ++ [(n : Int)] := by unfold nums; rw [List.range_succ, List.map_append]; rfl
theorem mem_nums {n : Nat} {k : Int} : k ∈ nums n ↔ 0 ≤ k ∧ k < n := by
  unfold nums
  rw [List.mem_map]
  constructor
  · rintro ⟨i, m, rfl⟩
    have := List.mem_range.mp m
    omega
  · rintro ⟨h0, h1⟩
    exact ⟨k.toNat, List.mem_range.mpr (by omega), by omega⟩
theorem onI_id (ns : List Int) : (ns.map V.int).filterMap (onI fun k => k) = ns.map V.int := by rw [onI_map, List.map_id']
theorem sorted_asc {l l' : List Int} (p : l'.Perm l) (le : l'.Pairwise (· ≤ ·)) (a : l.Pairwise (· < ·)) : l' = l := by
  have nd : l'.Nodup := p.nodup_iff.mpr (List.Pairwise.imp (fun h => Int.ne_of_lt h) a)
  exact asc_ext (lt_of_le_nodup l' le nd) a fun k => p.mem_iff
theorem k_sortA {K : PySem.W.Frag} {H : Hp} {Q : VK} {a : Addr} {ns : List Int} (h : SqL K H a (ns.map V.int)) (asc : ns.Pairwise (· < ·)) (q : ∀ p, H p = none → Q (.ref p) (upd H p (.lst (ns.map V.int)))) : rSortedI K [.ref a] H Q :=
  ⟨a, ns, rfl, h, fun ns' p pm le n => by rw [sorted_asc pm le asc]; exact q p n⟩
theorem nums_asc (n : Nat) : Asc n (nums n) := by
  refine ⟨?_, fun x m => mem_nums.mp m⟩
  unfold nums
  rw [List.pairwise_map]
  refine List.Pairwise.imp (fun h => Int.ofNat_lt.mpr h) ?_
  first | exact List.pairwise_lt_range | exact List.pairwise_lt_range _
theorem isHt_one {hs : List Int} {g : Pr} {h h' : Int} (a : IsHt hs g h) (b : IsHt hs g h') : h = h' := by
  rcases a with ⟨e, rfl⟩ | ⟨m, mm, ml, rfl⟩
  · rcases b with ⟨_, rfl⟩ | ⟨m', mm', _⟩
    · rfl
    · rw [e] at mm'; simp at mm'
  · rcases b with ⟨e, _⟩ | ⟨m', mm', ml', rfl⟩
    · rw [e] at mm; simp at mm
    · have h1 := ml m' mm'
      have h2 := ml' m mm
      omega
theorem ht_same {G G' : List Pr} {hs hs' : List Int} (o : HtOk G hs) (o' : HtOk G' hs') (sub : ∀ (i : Nat) (g : Pr), G[i]? = some g → G'[i]? = some g) (f : Forms G) : ∀ (n i : Nat), i < n → i < G.length → hat hs i = hat hs' i := by
  intro n
  induction n with
  | zero => intro i h; exact absurd h (Nat.not_lt_zero _)
  | succ n ih =>
    intro i hi hl
    have hg := List.getElem?_eq_getElem hl
    have a := o i _ hg
    have b := o' i _ (sub i _ hg)
    obtain ⟨a1, a2⟩ := f.asc i _ hg
    have e : (G[i].1 ++ G[i].2).map (hat hs) = (G[i].1 ++ G[i].2).map (hat hs') := by
      refine List.map_congr_left fun k m => ?_
      have bk := Asc.both a1 a2 k m
      have := ih k.toNat (by omega) (by omega)
      rw [show ((k.toNat : Nat) : Int) = k by omega] at this
      exact this
    unfold IsHt at b
    rw [← e] at b
    exact isHt_one a b
theorem nodup_le : ∀ (l m : List Int), l.Nodup → (∀ x ∈ l, x ∈ m) → l.length ≤ m.length
  | [], _, _, _ => Nat.zero_le _
  | x :: l, m, n, s => by
    obtain ⟨n1, n2⟩ := List.nodup_cons.mp n
    have hx := s x List.mem_cons_self
    have h := nodup_le l (m.erase x) n2 fun y my => (List.mem_erase_of_ne (fun (e : y = x) => n1 (e ▸ my))).mpr (s y (List.mem_cons_of_mem _ my))
    rw [List.length_erase_of_mem hx] at h
    have := List.length_pos_of_mem hx
    rw [List.length_cons]
    omega
/-- who is reached from k past none of the done -/
inductive Rch (G : List Pr) (dk : Int → Bool) (k : Int) : Int → Prop
  | root : dk k = false → Rch G dk k k
  | step {i j : Int} {g : Pr} : Rch G dk k i → G[i.toNat]? = some g → j ∈ g.1 ++ g.2 → dk j = false → Rch G dk k j
def dkey (kvs : List (Key × V)) : Int → Bool := fun j => (valV kvs (Sum.inl j)).isSome
theorem Rch.bound {G : List Pr} {dk : Int → Bool} {k j : Int} (f : Forms G) (h0 : 0 ≤ k ∧ k < G.length) (r : Rch G dk k j) : 0 ≤ j ∧ j ≤ k := by
  induction r with
  | root _ => exact ⟨h0.1, Int.le_refl _⟩
  | @step i j g r hg m _ ih =>
    obtain ⟨a1, a2⟩ := f.asc _ _ hg
    have := Asc.both a1 a2 _ m
    omega
end Mine
namespace Mine
open PySem PySem.Spec PyProof.Rows L2
open Evl (Ex)
structure FTable (K : PySem.W.Frag) : Prop where
  cl : Cls K (He.ga K "Table")
  np : NoAttr K (He.ga K "Table") "_place"
  nr : NoAttr K (He.ga K "Table") "_rows"
def tfs (t : Addr) (pl : V) : List (Str × V) := putF "_place" pl (putF "_rows" (.ref t) [])
theorem tfs_get (t : Addr) (pl : V) (m : Str) : (tfs t pl).lookup m = if m = "_place" then some pl else if m = "_rows" then some (.ref t) else none := by
  unfold tfs
  rw [lookup_putF, lookup_putF]
  rfl
theorem tfs_rows (t : Addr) (pl : V) : (tfs t pl).lookup ("_rows" : Str) = some (.ref t) := by
  rw [tfs_get, if_neg (by decide), if_pos rfl]
theorem tfs_place (t : Addr) (pl : V) : (tfs t pl).lookup ("_place" : Str) = some pl := by
  rw [tfs_get, if_pos rfl]
theorem tfs_no (t : Addr) (pl : V) {m : Str} (h : ¬ m = "_rows") (h2 : ¬ m = "_place") : (tfs t pl).lookup m = none := by
  rw [tfs_get, if_neg h2, if_neg h]
theorem tfs_set (t t0 : Addr) (pl p0 : V) : putF "_place" pl (putF "_rows" (.ref t) (tfs t0 p0)) = tfs t pl := by
  have n1 : ¬ (("_rows" : Str) = "_place") := by decide
  have n2 : ¬ (("_place" : Str) = "_rows") := by decide
  unfold tfs
  simp [putF, n1, n2]
/-- a table with these rows at this place -/
def TbAt (K : PySem.W.Frag) (H : Hp) (b : Addr) (xs : List V) (pl : V) : Prop := ∃ dx t, H b = some (.ins (He.ga K "Table") dx (tfs t pl)) ∧ H t = some (.tup xs)
theorem TbAt.ex {K : PySem.W.Frag} {H H' : Hp} {b : Addr} {xs : List V} {pl : V} (h : TbAt K H b xs pl) (e : Ex H H') : TbAt K H' b xs pl := let ⟨dx, t, h1, h2⟩ := h; ⟨dx, t, e _ _ h1, e _ _ h2⟩
theorem TbAt.keep {K : PySem.W.Frag} {H H' : Hp} {b : Addr} {xs : List V} {pl : V} (h : TbAt K H b xs pl) (k : ∀ c o, H c = some o → (∀ ys, o ≠ .lst ys) → H' c = some o) : TbAt K H' b xs pl :=
  let ⟨dx, t, h1, h2⟩ := h; ⟨dx, t, k _ _ h1 (fun ys z => by cases z), k _ _ h2 (fun ys z => by cases z)⟩
/-- the places of a side -/
def GoAt (H : Hp) (y : V) (g : List Int) : Prop := ∃ a, y = .ref a ∧ H a = some (.tup (g.map V.int))
theorem GoAt.ex {H H' : Hp} {y : V} {g : List Int} (h : GoAt H y g) (e : Ex H H') : GoAt H' y g := let ⟨a, r, z⟩ := h; ⟨a, r, e _ _ z⟩
theorem GoAt.keep {H H' : Hp} {y : V} {g : List Int} (h : GoAt H y g) (k : ∀ c o, H c = some o → (∀ ys, o ≠ .lst ys) → H' c = some o) : GoAt H' y g := let ⟨a, r, z⟩ := h; ⟨a, r, k _ _ z (fun ys z => by cases z)⟩
abbrev RowG := List Int × List Int
def RoAt (H : Hp) (y : V) (r : RowG) : Prop := ∃ a y1 y2, y = .ref a ∧ H a = some (.tup [y1, y2]) ∧ GoAt H y1 r.1 ∧ GoAt H y2 r.2
theorem RoAt.ex {H H' : Hp} {y : V} {r : RowG} (h : RoAt H y r) (e : Ex H H') : RoAt H' y r := let ⟨a, y1, y2, q, z, h1, h2⟩ := h; ⟨a, y1, y2, q, e _ _ z, h1.ex e, h2.ex e⟩
theorem RoAt.keep {H H' : Hp} {y : V} {r : RowG} (h : RoAt H y r) (k : ∀ c o, H c = some o → (∀ ys, o ≠ .lst ys) → H' c = some o) : RoAt H' y r := let ⟨a, y1, y2, q, z, h1, h2⟩ := h; ⟨a, y1, y2, q, k _ _ z (fun ys z => by cases z), h1.keep k, h2.keep k⟩
def RsAt (H : Hp) (xs : List V) (rs : List RowG) : Prop := xs.length = rs.length ∧ ∀ (i : Nat) (r : RowG), rs[i]? = some r → ∃ y, xs[i]? = some y ∧ RoAt H y r
theorem RsAt.ex {H H' : Hp} {xs : List V} {rs : List RowG} (h : RsAt H xs rs) (e : Ex H H') : RsAt H' xs rs := ⟨h.1, fun i r q => let ⟨y, h1, h2⟩ := h.2 i r q; ⟨y, h1, h2.ex e⟩⟩
theorem RsAt.keep {H H' : Hp} {xs : List V} {rs : List RowG} (h : RsAt H xs rs) (k : ∀ c o, H c = some o → (∀ ys, o ≠ .lst ys) → H' c = some o) : RsAt H' xs rs := ⟨h.1, fun i r q => let ⟨y, h1, h2⟩ := h.2 i r q; ⟨y, h1, h2.keep k⟩⟩
/-- strictly ascending, within bounds -/
def AscF : Int → Int → List Int → Prop
  | _, _, [] => True
  | least, c, z :: r => least ≤ z ∧ z ≤ c - 1 ∧ AscF (z + 1) c r
def OkR (rs : List RowG) : Prop := 1 ≤ rs.length ∧ rs.length ≤ 40 ∧ ∀ (i : Nat) (r : RowG), rs[i]? = some r → AscF ((i : Int) + 1) rs.length r.1 ∧ AscF ((i : Int) + 1) rs.length r.2
theorem AscF.len : ∀ {g : List Int} {least c : Int}, AscF least c g → (g.length : Int) ≤ max 0 (c - least)
  | [], _, _, _ => by simp; omega
  | z :: r, least, c, h => by
    have := AscF.len h.2.2
    rw [List.length_cons]
    have h1 := h.1
    have h2 := h.2.1
    omega
theorem AscF.mem : ∀ {g : List Int} {least c z : Int}, AscF least c g → z ∈ g → least ≤ z ∧ z ≤ c - 1
  | [], _, _, _, _, m => by cases m
  | y :: r, least, c, z, h, m => by
    rcases List.mem_cons.mp m with rfl | m
    · exact ⟨h.1, h.2.1⟩
    · have := AscF.mem h.2.2 m
      have h1 := h.1
      omega
/-- a list of things that fails as places -/
def BadF (K : PySem.W.Frag) (H : Hp) (c : Int) (wh : V → Int → Int → Bool) : Int → List V → Prop
  | _, [] => False
  | least, y :: r => (∃ T, TyB K H y T) ∧ (wh y least (c - 1) = false ∨ ∃ z, y = .int z ∧ wh y least (c - 1) = true ∧ BadF K H c wh (z + 1) r)
theorem BadF.ex {K : PySem.W.Frag} {H H' : Hp} {c : Int} {wh : V → Int → Int → Bool} (e : Ex H H') : ∀ {xs : List V} {least : Int}, BadF K H c wh least xs → BadF K H' c wh least xs
  | [], _, h => h
  | _ :: _, _, ⟨⟨T, t⟩, h⟩ => ⟨⟨T, TyB.ex t e⟩, h.imp id fun ⟨z, q, w, b⟩ => ⟨z, q, w, BadF.ex e b⟩⟩
def BadP (K : PySem.W.Frag) (H : Hp) (wh : V → Int → Int → Bool) (at_ c : Int) (y : V) : Prop := (∃ T, TyB K H y T ∧ T ≠ "tuple") ∨ ∃ a xs, y = .ref a ∧ H a = some (.tup xs) ∧ BadF K H c wh (at_ + 1) xs
theorem BadP.ex {K : PySem.W.Frag} {H H' : Hp} {wh : V → Int → Int → Bool} {p c : Int} {y : V} (h : BadP K H wh p c y) (e : Ex H H') : BadP K H' wh p c y := by
  rcases h with ⟨T, t, n⟩ | ⟨a, xs, q, z, b⟩
  · exact Or.inl ⟨T, TyB.ex t e, n⟩
  · exact Or.inr ⟨a, xs, q, e _ _ z, BadF.ex e b⟩
/-- a thing that is no row -/
def BadR (K : PySem.W.Frag) (H : Hp) (wh : V → Int → Int → Bool) (at_ c : Int) (y : V) : Prop := (∃ T, TyB K H y T ∧ T ≠ "tuple") ∨ (∃ a xs, y = .ref a ∧ H a = some (.tup xs) ∧ xs.length ≠ 2) ∨ ∃ a y1 y2, y = .ref a ∧ H a = some (.tup [y1, y2]) ∧ (BadP K H wh at_ c y1 ∨ ∃ g, GoAt H y1 g ∧ AscF (at_ + 1) c g ∧ BadP K H wh at_ c y2)
theorem BadR.ex {K : PySem.W.Frag} {H H' : Hp} {wh : V → Int → Int → Bool} {p c : Int} {y : V} (h : BadR K H wh p c y) (e : Ex H H') : BadR K H' wh p c y := by
  rcases h with ⟨T, t, n⟩ | ⟨a, xs, q, z, l⟩ | ⟨a, y1, y2, q, z, h⟩
  · exact Or.inl ⟨T, TyB.ex t e, n⟩
  · exact Or.inr (Or.inl ⟨a, xs, q, e _ _ z, l⟩)
  · refine Or.inr (Or.inr ⟨a, y1, y2, q, e _ _ z, ?_⟩)
    rcases h with h | ⟨g, h1, h2, h3⟩
    · exact Or.inl (h.ex e)
    · exact Or.inr ⟨g, h1.ex e, h2, h3.ex e⟩
theorem for_enumL {g : TG} {tb : TS} {D : Ends} {σ : L2.St} {H : Hp} {K : PySem.W.Frag} {a : Addr} {xs : List V} (Pv : Nat → L2.St → Hp → Prop) (h0 : Pv 0 σ H) (hl : ∀ i σ' H', i ≤ xs.length → Pv i σ' H' → SqL K H' a xs)
    (hs : ∀ i x σ' H' T, xs[i]? = some x → Pv i σ' H' → H' T = none → g (.ref T) σ' (upd H' T (.tup [.int (i : Nat), x])) fun σ2 H2 => tb { D with nx := Pv (i + 1), ct := Pv (i + 1), bk := D.nx } σ2 H2) (hd : ∀ σ' H', Pv xs.length σ' H' → D.nx σ' H') : forK g tb D σ (Ite K a) H := by
  refine ⟨fun i m σ H => i ≤ xs.length ∧ m = xs.length - i ∧ Pv i σ H, ⟨xs.length, Nat.zero_le _, by omega, h0⟩, ?_⟩
  rintro i m σ H ⟨hi, rfl, p⟩
  have hq := hl i σ H hi p
  rcases Nat.lt_or_ge i xs.length with h | h
  · refine Or.inr ⟨⟨xs, xs[i], hq, List.getElem?_eq_getElem h⟩, Pv (i + 1), fun σ' H' p' => ⟨xs.length - (i + 1), by omega, by omega, rfl, p'⟩, ?_⟩
    rintro v H' ⟨T, x, rfl, hT, rfl, hx⟩
    exact hs i x σ H T (hx xs hq) p hT
  · have e : i = xs.length := by omega
    subst e
    exact Or.inl ⟨⟨xs, hq, Nat.le_refl _⟩, hd σ H p⟩
theorem k_enumL {K : PySem.W.Frag} {σ : L2.St} {H : Hp} {ta : TA} {R : It → Hp → Prop} (q : ta σ H fun vs H1 => ∃ a xs, vs = [.ref a] ∧ SqL K H1 a xs ∧ R (Ite K a) H1) : iEnum K ta σ H R := q
end Mine
namespace Mine
open PySem PySem.Spec PyProof.Rows L2
open Evl (Ex)
/-- boards with these rows at these places -/
def TsAt (K : PySem.W.Frag) (H : Hp) (ys xs : List V) (g : List Int) : Prop := ys.length = g.length ∧ ∀ (i : Nat) (z : Int), g[i]? = some z → ∃ b, ys[i]? = some (.ref b) ∧ TbAt K H b xs (.int z)
theorem TsAt.ex {K : PySem.W.Frag} {H H' : Hp} {ys xs : List V} {g : List Int} (h : TsAt K H ys xs g) (e : Ex H H') : TsAt K H' ys xs g := ⟨h.1, fun i z q => let ⟨b, h1, h2⟩ := h.2 i z q; ⟨b, h1, h2.ex e⟩⟩
/-- the values that are due -/
def TdAt (H : Hp) (ys : List V) (u : Addr) (g : List Int) : Prop := ys.length = g.length ∧ ∀ (i : Nat) (z : Int), g[i]? = some z → ∃ d, ys[i]? = some (.ref d) ∧ H d = some (.tup [.str "table", .ref u, .int z])
theorem TdAt.ex {H H' : Hp} {ys : List V} {u : Addr} {g : List Int} (h : TdAt H ys u g) (e : Ex H H') : TdAt H' ys u g := ⟨h.1, fun i z q => let ⟨b, h1, h2⟩ := h.2 i z q; ⟨b, h1, e _ _ h2⟩⟩
def sideG (s : Str) (r : RowG) : List Int := if s = "left" then r.1 else r.2
theorem OkR.side {rs : List RowG} (ok : OkR rs) {k : Nat} {r : RowG} (h : rs[k]? = some r) (s : Str) : AscF ((k : Int) + 1) rs.length (sideG s r) := by
  unfold sideG
  split
  · exact (ok.2.2 k r h).1
  · exact (ok.2.2 k r h).2
theorem OkR.few {rs : List RowG} (ok : OkR rs) {k : Nat} {r : RowG} (h : rs[k]? = some r) (s : Str) : (sideG s r).length ≤ 40 := by
  have h1 := (ok.side h s).len
  have h2 := ok.2.1
  omega
theorem OkR.few2 {rs : List RowG} (ok : OkR rs) {k : Nat} {r : RowG} (h : rs[k]? = some r) : r.1.length ≤ 40 ∧ r.2.length ≤ 40 := by
  have h1 := (ok.2.2 k r h).1.len
  have h3 := (ok.2.2 k r h).2.len
  have h2 := ok.2.1
  exact ⟨by omega, by omega⟩
/-- the data of a row -/
def rowD (r : RowG) : PyData := .tuple [.tuple (r.1.map .int), .tuple (r.2.map .int)]
theorem RoAt.dp {K : PySem.W.Frag} {H : Hp} {y : V} {r : RowG} (h : RoAt H y r) : Dp K H y (rowD r) := by
  obtain ⟨a, y1, y2, rfl, ha, ⟨u, rfl, hu⟩, ⟨v, rfl, hv⟩⟩ := h
  exact .tup (k_st ha) (.cons (.tup (k_st hu) (dp_ints _)) (.cons (.tup (k_st hv) (dp_ints _)) .nil))
theorem eqv_row (g h : RowG) : (rowD g).eqv (rowD h) = decide (g = h) := by
  unfold rowD
  simp only [PyData.eqv, PyData.eqvAll, PySem.W.ked_eqvAll]
  obtain ⟨a, b⟩ := g
  obtain ⟨c, d⟩ := h
  by_cases h1 : a = c <;> by_cases h2 : b = d <;> simp [h1, h2]
theorem shaped_row (g : RowG) : SeqAt.shaped (rowD g) = true := by
  unfold rowD SeqAt.shaped
  simp only [PyData.canLay0, PyData.depth, PyData.canLayAll0, PyData.depthAll, lay_ints, deep_ints]
  rfl
end Mine
namespace Mine
open PySem PySem.Spec PyProof.Rows L2
open Evl (Ex)
theorem ascF_of : ∀ {g : List Int} {least c : Int}, g.Pairwise (· < ·) → (∀ z ∈ g, least ≤ z ∧ z ≤ c - 1) → AscF least c g
  | [], _, _, _, _ => trivial
  | z :: r, least, c, p, h => by
    obtain ⟨p1, p2⟩ := List.pairwise_cons.mp p
    have hz := h z (List.mem_cons_self ..)
    refine ⟨hz.1, hz.2, ascF_of p2 fun y m => ?_⟩
    have h1 := p1 y m
    have h2 := h y (List.mem_cons_of_mem _ m)
    omega
/-- the members of a range that a test keeps -/
def keptL (lo : Int) (n : Nat) (b : Nat → Bool) : List Int := ((List.range n).filter b).map fun (i : Nat) => lo + (i : Int)
theorem keptL_asc (lo c : Int) (n : Nat) (b : Nat → Bool) (h : lo + n ≤ c) : AscF lo c (keptL lo n b) := by
  refine ascF_of ?_ fun z m => ?_
  · unfold keptL
    rw [List.pairwise_map]
    exact (List.pairwise_lt_range.filter b).imp fun h => by omega
  · obtain ⟨i, mi, rfl⟩ := List.mem_map.mp m
    have := List.mem_range.mp (List.mem_filter.mp mi).1
    omega
theorem keptL_map (lo : Int) (n : Nat) (p : Nat → Bool) : (List.range n).filterMap (fun (i : Nat) => if p i = true then some (V.int (lo + (i : Int))) else none) = (keptL lo n p).map V.int := by
  unfold keptL
  induction (List.range n) with
  | nil => rfl
  | cons x xs ih =>
    rw [List.filterMap_cons, List.filter_cons]
    by_cases h : p x = true
    · rw [if_pos h, if_pos h, List.map_cons, List.map_cons, ← ih]
    · rw [if_neg h, if_neg h]; exact ih
section
variable {g : TG} {tt : TT} {te : TE} {vs : List Nat} {σ : L2.St} {Q : VK} {H1 : Hp} {K : PySem.W.Frag}
theorem lcR_rngL {lo : Int} {n : Nat} (f : Nat → Option V) (len : n < sizeLine) (t : ∀ i, i < n → turnR g tt te vs σ (.int (lo + (i : Int))) (f i) H1)
    (q : ∀ D H', H1 D = none → Ex H1 H' → H' D = some (.lst ((List.range n).filterMap f)) → Q (.ref D) H') : lcR g tt te vs σ Q (Itr lo n) H1 := by
  intro D hD
  refine lc_range (lo := lo) (n := n) (fun i H => Ex H1 H ∧ H D = some (.lst ((List.range i).filterMap f))) ⟨Evl.Ex.new hD, upd_same⟩ (fun i H hi p => ?_) (fun H p => q D H hD p.1 p.2)
  refine turn_in (t i hi) p.1 hD p.2 ?_ fun H' e h' => ⟨e, ?_⟩
  · refine Nat.lt_of_le_of_lt (Nat.le_trans (List.length_filterMap_le _ _) ?_) (Nat.lt_trans hi len)
    rw [List.length_range]; exact Nat.le_refl i
  · rw [h', List.range_succ, List.filterMap_append]
    cases h : f i <;> simp [h]
end
end Mine
namespace Mine
open PySem PySem.Spec PyProof.Rows L2
open Evl (Ex)
theorem get_snoc {α : Type} {l : List α} {x y : α} {i : Nat} (h : (l ++ [x])[i]? = some y) : l[i]? = some y ∨ (i = l.length ∧ y = x) := by
  rcases Nat.lt_or_ge i l.length with c | c
  · rw [List.getElem?_append_left c] at h; exact Or.inl h
  · have l2 := (List.getElem?_eq_some_iff.mp h).1
    rw [List.length_append, List.length_singleton] at l2
    have e : i = l.length := by omega
    subst e
    rw [List.getElem?_append_right (Nat.le_refl _), Nat.sub_self] at h
    exact Or.inr ⟨rfl, (Option.some.inj h).symm⟩
theorem RsAt.snoc {H : Hp} {xs : List V} {rs : List RowG} {y : V} {r : RowG} (h : RsAt H xs rs) (hr : RoAt H y r) : RsAt H (xs ++ [y]) (rs ++ [r]) := by
  refine ⟨by rw [List.length_append, List.length_append, h.1]; rfl, fun i r' q => ?_⟩
  rcases get_snoc q with q | ⟨rfl, rfl⟩
  · obtain ⟨y', h1, h2⟩ := h.2 i r' q
    have l := (List.getElem?_eq_some_iff.mp h1).1
    exact ⟨y', by rw [List.getElem?_append_left l]; exact h1, h2⟩
  · exact ⟨y, by rw [← h.1, List.getElem?_append_right (Nat.le_refl _), Nat.sub_self]; rfl, hr⟩
end Mine
namespace Mine
open PySem PySem.Spec PyProof.Rows L2
open Evl (Ex)
section
variable {K : PySem.W.Frag} {H : Hp} {wh : V → Int → Int → Bool} {p c : Int}
theorem badR_ty {y : V} {T : String} (t : TyB K H y T) (n : T ≠ "tuple") : BadR K H wh p c y := Or.inl ⟨T, t, n⟩
theorem badR_len {a : Addr} {xs : List V} (h : H a = some (.tup xs)) (n : xs.length ≠ 2) : BadR K H wh p c (.ref a) := Or.inr (Or.inl ⟨a, xs, rfl, h, n⟩)
theorem badR_1 {a u : Addr} {y y2 : V} {r : List V} {T : String} (h : H a = some (.tup [.ref u, y2])) (hu : H u = some (.tup (y :: r))) (t : TyB K H y T) (w : wh y (p + 1) (c - 1) = false) : BadR K H wh p c (.ref a) :=
  Or.inr (Or.inr ⟨a, _, _, rfl, h, Or.inl (Or.inr ⟨u, _, rfl, hu, ⟨T, t⟩, Or.inl w⟩)⟩)
/-- the second thing fails behind a good first one -/
theorem badR_1' {a u : Addr} {z : Int} {y y2 : V} {r : List V} {T : String} (h : H a = some (.tup [.ref u, y2])) (hu : H u = some (.tup (.int z :: y :: r))) (w0 : wh (.int z) (p + 1) (c - 1) = true) (t : TyB K H y T) (w : wh y (z + 1) (c - 1) = false) : BadR K H wh p c (.ref a) :=
  Or.inr (Or.inr ⟨a, _, _, rfl, h, Or.inl (Or.inr ⟨u, _, rfl, hu, ⟨_, .int z⟩, Or.inr ⟨z, rfl, w0, ⟨T, t⟩, Or.inl w⟩⟩)⟩)
theorem badR_l1 {a : Addr} {y1 y2 : V} {T : String} (h : H a = some (.tup [y1, y2])) (t : TyB K H y1 T) (n : T ≠ "tuple") : BadR K H wh p c (.ref a) :=
  Or.inr (Or.inr ⟨a, _, _, rfl, h, Or.inl (Or.inl ⟨T, t, n⟩)⟩)
theorem badR_l2 {a : Addr} {y1 y2 : V} {g : List Int} {T : String} (h : H a = some (.tup [y1, y2])) (hg : GoAt H y1 g) (as : AscF (p + 1) c g) (t : TyB K H y2 T) (n : T ≠ "tuple") : BadR K H wh p c (.ref a) :=
  Or.inr (Or.inr ⟨a, _, _, rfl, h, Or.inr ⟨g, hg, as, Or.inl ⟨T, t, n⟩⟩⟩)
theorem badR_2 {a u : Addr} {y1 y : V} {r : List V} {g : List Int} {T : String} (h : H a = some (.tup [y1, .ref u])) (hg : GoAt H y1 g) (as : AscF (p + 1) c g) (hu : H u = some (.tup (y :: r))) (t : TyB K H y T) (w : wh y (p + 1) (c - 1) = false) : BadR K H wh p c (.ref a) :=
  Or.inr (Or.inr ⟨a, _, _, rfl, h, Or.inr ⟨g, hg, as, Or.inr ⟨u, _, rfl, hu, ⟨T, t⟩, Or.inl w⟩⟩⟩)
theorem badR_2' {a u : Addr} {z : Int} {y1 y : V} {r : List V} {g : List Int} {T : String} (h : H a = some (.tup [y1, .ref u])) (hg : GoAt H y1 g) (as : AscF (p + 1) c g) (hu : H u = some (.tup (.int z :: y :: r))) (w0 : wh (.int z) (p + 1) (c - 1) = true) (t : TyB K H y T) (w : wh y (z + 1) (c - 1) = false) : BadR K H wh p c (.ref a) :=
  Or.inr (Or.inr ⟨a, _, _, rfl, h, Or.inr ⟨g, hg, as, Or.inr ⟨u, _, rfl, hu, ⟨_, .int z⟩, Or.inr ⟨z, rfl, w0, ⟨T, t⟩, Or.inl w⟩⟩⟩⟩)
theorem goNil {a : Addr} (h : H a = some (.tup [])) : GoAt H (.ref a) [] := ⟨a, rfl, h⟩
def Bads (K : PySem.W.Frag) (H : Hp) (wh : V → Int → Int → Bool) (n : Nat) (b : Addr) (p c : Int) : Prop := ∃ ys, H b = some (.lst ys) ∧ ys.length ≤ n ∧ ∀ y ∈ ys, BadR K H wh p c y
end
end Mine
namespace Mine
open PySem PySem.Spec PyProof.Rows L2
open Evl (Ex)
theorem RsAt.tail {H : Hp} {y : V} {ys : List V} {r : RowG} {rs : List RowG} (h : RsAt H (y :: ys) (r :: rs)) : RoAt H y r ∧ RsAt H ys rs := by
  refine ⟨?_, by have := h.1; rw [List.length_cons, List.length_cons] at this; omega, fun i r' q => ?_⟩
  · obtain ⟨y', h1, h2⟩ := h.2 0 r rfl
    cases h1; exact h2
  · obtain ⟨y', h1, h2⟩ := h.2 (i + 1) r' q
    exact ⟨y', h1, h2⟩
theorem RsAt.dp {K : PySem.W.Frag} {H : Hp} : ∀ {xs : List V} {rs : List RowG}, RsAt H xs rs → DpAll K H xs (rs.map rowD)
  | [], [], _ => .nil
  | y :: ys, r :: rs, h => .cons h.tail.1.dp (RsAt.dp h.tail.2)
  | [], _ :: _, h => absurd h.1 (by simp)
  | _ :: _, [], h => absurd h.1 (by simp)
theorem deep_rows : ∀ rs : List RowG, PyData.depthAll (rs.map rowD) ≤ 2
  | [] => by simp only [List.map_nil, PyData.depthAll]; decide
  | g :: rs => by
    have h := deep_rows rs
    have e : (rowD g).depth = 2 := by
      unfold rowD
      simp only [PyData.depth, PyData.depthAll, deep_ints]
      rfl
    simp only [List.map_cons, PyData.depthAll, e]
    omega
theorem lay_rows : ∀ rs : List RowG, PyData.canLayAll0 (rs.map rowD) = true
  | [] => rfl
  | g :: rs => by
    have e : (rowD g).canLay0 = true := by
      unfold rowD
      simp only [PyData.canLay0, PyData.canLayAll0, lay_ints]
      rfl
    simp only [List.map_cons, PyData.canLayAll0, e, lay_rows rs]
    rfl
theorem shaped_rows (rs : List RowG) : SeqAt.shaped (.list (rs.map rowD)) = true := by
  have h := deep_rows rs
  have hd : (PyData.list (rs.map rowD)).depth ≤ 64 := by simp only [PyData.depth]; omega
  have hl : (PyData.list (rs.map rowD)).canLay0 = true := by simp only [PyData.canLay0]; exact lay_rows rs
  unfold SeqAt.shaped
  rw [hl, decide_eq_true hd]
  rfl
theorem eqvAll_rows : ∀ rs : List RowG, PyData.eqvAll (rs.map rowD) (rs.map rowD) = true
  | [] => by simp only [List.map_nil, PyData.eqvAll]
  | g :: rs => by
    simp only [List.map_cons, PyData.eqvAll, eqvAll_rows rs, eqv_row]
    simp
theorem eqv_rows (rs : List RowG) : PyData.eqv (.list (rs.map rowD)) (.list (rs.map rowD)) = true := by
  rw [PyData.eqv]
  exact eqvAll_rows rs
theorem k_neRows {K : PySem.W.Frag} {H : Hp} {Q : VK} {a b : Addr} {xs : List V} {rs : List RowG} (h1 : SqL K H a xs) (h2 : SqL K H b xs) (R : RsAt H xs rs) (q : Q (.bl false) H) : rNeD K (.ref a) (.ref b) H Q :=
  ⟨_, _, .lst h1 R.dp, .lst h2 R.dp, shaped_rows rs, shaped_rows rs, by rw [eqv_rows]; exact q⟩
theorem TbAt.set {K : PySem.W.Frag} {H : Hp} {b p : Addr} {xs ys : List V} {pl : V} {o : HO} (h : TbAt K H b xs pl) (hp : H p = some (.lst ys)) : TbAt K (upd H p o) b xs pl :=
  h.keep fun c q z n => (upd_ne fun e => n ys (by rw [e, hp] at z; exact (Option.some.inj z).symm)).trans z
end Mine
namespace Mine
open PySem PySem.Spec PyProof.Rows L2
open Sem (wp)
/-! {x}: a set of one int -/
def tSet1 (w : World) (te : TE) : TE := fun σ H Q => ∀ p, H p = none → te σ (upd H p (SetO w p (fun _ => false) 0)) fun v H1 => ∃ k : Int, v = V.int k ∧ H1 p = some (SetO w p (fun _ => false) 0) ∧ Q (.ref p) (upd H1 p (SetO w p (fun j => decide (j = k)) 1))
theorem code_kds {K : PySem.W.Frag} {cd : Value} {q : Str} (h : PySem.W.codeIn K cd q = true) : PySem.W.kdsCode K cd = true := by
  unfold PySem.W.codeIn at h
  unfold PySem.W.kdsCode
  split at h
  · split at h
    · rename_i e
      dsimp only
      rw [e]
    · cases h
  · cases h
theorem pe_set1 {X : Cx} {e : Expr} {te : TE} {pos : Pos} (hc : PySem.W.kdsCode X.K X.env.code = true) (he : PE X e te) (hs : starEach [e] X.env = [(false, eval e X.env)] := by rfl) : PE X (.Set [e] 0 pos) (tSet1 X.w te) := by
  refine ⟨fun pins s σ H Q I h => ?_⟩
  rw [arm_eval_Set]
  refine wpAny_bind (wpAny_standAt ?_)
  refine wpAny_bind (PySem.W.kds_main (I.kIn) hc fun b => ?_)
  rw [hs]
  unfold setDisplay
  dsimp only
  have road : (displayRoad 0 [e] == DisplayRoad.constants) = false := rfl
  rw [road, if_neg (by decide)]
  refine wpAny_bind (wpAny_newSet_raw fun led hl => ?_)
  subst hl
  have hn := I.hok.fresh (Nat.le_refl s.heap.objs.size)
  have R0 := setR_fresh (h := s.heap) X.w
  have I1 := I.laid (a := s.heap.objs.size) (o := SetO X.w s.heap.objs.size (fun _ => false) 0) (t' := s.toks) (fun _ _ q => Heap.get?_push_of_some _ q) (Nat.le_refl _) (setO_new R0)
  refine wpAny_bind (wpAny_holding ?_)
  refine wpAny_bind (m := evalAll [(do let v ← eval e X.env; standAt pos; pure v)]) ?_
  refine wpAny_mono (PySem.W.kds_all (env := X.env) pos [e] _ (fun vs s' => ∃ (k : Int) (tk : Tok) (H1 : Hp), vs = [Value.int k tk] ∧ Inv X pins σ H1 s' ∧ H1 s.heap.objs.size = some (SetO X.w s.heap.objs.size (fun _ => false) 0) ∧ Q (.ref s.heap.objs.size) (upd H1 s.heap.objs.size (SetO X.w s.heap.objs.size (fun j => decide (j = k)) 1))) ?_) (fun vs s' h' => ?_) fun _ _ x => x
  · refine thn (he.run pins _ σ _ _ I1 (h _ hn)) fun u s1 z => ?_
    obtain ⟨v, H1, I2, rv, k, rfl, hp, q⟩ := z
    obtain ⟨tk, rfl⟩ := rv
    exact ⟨k, tk, H1, rfl, I2, hp, q⟩
  · obtain ⟨k, tk, H1, rfl, I2, hp, q⟩ := h'
    refine wpAny_bind (wpAny_holding ?_)
    refine wpAny_bind ?_
    rw [List.forIn_cons]
    refine wpAny_bind (wpAny_bind ?_)
    unfold setAdd
    refine wpAny_holding ?_
    refine wpAny_bind ((intKind X.prog X.w).pyHash (k := k) (intKind_is _ _ _ _) ?_)
    refine setR_add_hashed (s := { s' with toks := s'.toks + 1 }) (show SetR X.w s'.heap s.heap.objs.size (fun _ => false) 0 from setO_get I2 hp) (by decide) fun h' sb R => ?_
    refine wpAny_pure ?_
    dsimp only
    rw [List.forIn_nil]
    refine wpAny_pure ?_
    have road2 : (displayRoad 0 [e] == DisplayRoad.unsure) = false := rfl
    rw [road2, if_neg (by decide)]
    refine wpAny_pure ?_
    show wpAny _ _ (forIn [] _ _ >>= _) _ _ _
    rw [List.forIn_nil]
    refine wpAny_pure (wpAny_pure ?_)
    have hex : ∃ u, h'.get? s.heap.objs.size = some u := by
      have ⟨o, _, _, _, ho, _⟩ := R
      exact ⟨o, ho⟩
    have R2 : SetR X.w h' s.heap.objs.size (fun j => decide (j = k)) 1 := R.congr fun j => by simp
    exact ⟨.ref s.heap.objs.size, _, I2.write (x := s.heap.objs.size) (e := s.heap.objs.size) (t' := s'.toks + 1) (by rw [hp]; exact True.intro) (.inl rfl) (fun b u hb y => (sb.2 b hb).trans y) hex (setO_new R2), rfl, q⟩
/-- a def whose body asks for its own code -/
theorem okC {P : Program} {w : World} {K : PySem.W.Frag} {mg : Str → Option Value} {base : Heap} {x qual : Str} {params : Arguments} {body : List Stmt} {scope : Scope} {dvs : List V} {kws : List (Str × V)} {f : Addr} {fd : FuncData} {CX : CXT} {N ps : List Str} {k : Nat} {sp : Sp}
    (F : FunD K x qual params body scope dvs kws f fd) (S : FnScope N ps scope) (len : ∀ vs H Q E, sp vs H Q E → vs.length = ps.length)
    (hbody : ∀ (cdv : Value), PySem.W.kdsCode K cdv = true → ∀ (A : Around) (outer : List Env) (s : Shared) (H : Hp) (vs : List V) (Q : VK) (E : XK), Room k (A.deeper (envOfC qual scope s.heap.objs.size f cdv)) → sp vs H Q E →
      ∃ t, PSs (cxOf CX P w K mg base N qual scope f cdv A outer s H E) body t ∧ t { nx := fun _ H' => Q .non H', rt := Q } (start N vs) H) : FnOk P w K mg base CX (k + 1) f fd ps sp := by
  obtain ⟨_, _, _, _, _, _, _, cdv, _, _, rfl, lk, hcd, _⟩ := F.ex
  exact fn_of lk hcd S len fun A outer s H vs Q E hr hsp => hbody cdv (code_kds hcd) A outer s H vs Q E hr hsp
end Mine
namespace Mine
open PySem PySem.Spec PyProof.Rows L2
open Evl (Ex)
section
variable {H : Hp} {Q : VK} {K : PySem.W.Frag} {w : World} {σ : L2.St}
theorem k_dnew (q : ∀ p, H p = none → Q (.ref p) (upd H p (.dK []))) : tDNewK σ H Q := q
theorem k_set1 {te : TE} (q : ∀ p, H p = none → te σ (upd H p (SetO w p (fun _ => false) 0)) fun v H1 => ∃ k : Int, v = V.int k ∧ H1 p = some (SetO w p (fun _ => false) 0) ∧ Q (.ref p) (upd H1 p (SetO w p (fun j => decide (j = k)) 1))) : tSet1 w te σ H Q := q
theorem k_sadd {te : TE} {t : TA} (q : te σ H fun x H1 => (∃ a S n, x = V.ref a ∧ H1 a = some (SetO w a S n)) ∧ t σ H1 fun xs H2 => rSAdd w x xs H2 Q) : tSAdd w te t σ H Q := q
theorem k_sIn {k : Int} {a : Addr} {S : Int → Bool} {n : Nat} (h : H a = some (SetO w a S n)) (q : Q (.bl (S k)) H) : rSIn w (.int k) (.ref a) H Q := ⟨k, a, S, n, rfl, rfl, h, q⟩
theorem k_sNot {k : Int} {a : Addr} {S : Int → Bool} {n : Nat} (h : H a = some (SetO w a S n)) (q : Q (.bl (!S k)) H) : rSNotIn w (.int k) (.ref a) H Q := ⟨k, a, S, n, rfl, rfl, h, q⟩
theorem k_gsub {to ti : TE} {t : TSet} {v : V} {R : L2.St → Hp → Prop} (q : to σ H fun o H1 => ti σ H1 fun i H2 => t o i v H2 fun H3 => R σ H3) : gSub to ti t v σ H R := q
theorem k_rng3 {ta : TA} {R : It → Hp → Prop} (q : ta σ H fun vs H1 => ∃ (i j c : Int) (n : Nat), vs = [V.int i, V.int j, V.int c] ∧ RgC i j c n ∧ R (Itc i c n) H1) : iRng3 ta σ H R := q
theorem k_tru {te : TE} {R : Bool → Hp → Prop} (q : te σ H fun x H' => ∃ k, TruV K x H' k ∧ R k H') : tTru K te σ H R := q
theorem tru_L {a : Addr} {xs : List V} {R : Bool → Prop} (h : SqL K H a xs) (q : R (!xs.isEmpty)) : ∃ k, TruV K (.ref a) H k ∧ R k := ⟨_, Or.inl ⟨xs, h, rfl⟩, q⟩
theorem k_rSAdd {a : Addr} {k : Int} {S : Int → Bool} {n : Nat} (h : H a = some (SetO w a S n)) (l : n ≤ 1000) (no : S k = false) (q : Q .non (upd H a (SetO w a (fun j => S j || decide (j = k)) (n + 1)))) : rSAdd w (.ref a) [.int k] H Q :=
  ⟨a, k, S, n, rfl, rfl, h, Nat.lt_of_le_of_lt (Nat.succ_le_succ l) (by decide), by rw [if_neg (by rw [no]; decide)]; exact q⟩
theorem k_rPop {l : Addr} {xs : List V} {y : V} (h : H l = some (.lst (xs ++ [y]))) (q : Q y (upd H l (.lst xs))) : rPop (.ref l) [] H Q :=
  ⟨l, xs ++ [y], y, rfl, rfl, h, by rw [List.length_append, List.length_singleton, Nat.add_sub_cancel, List.getElem?_append_right (Nat.le_refl _), Nat.sub_self]; rfl, by rw [List.dropLast_concat]; exact q⟩
theorem forK_tup {g : TG} {tb : TS} {D : Ends} {a : Addr} {xs : List V} (Pv : Nat → L2.St → Hp → Prop) (h0 : Pv 0 σ H) (hl : ∀ i σ' H', i ≤ xs.length → Pv i σ' H' → SqT K H' a xs)
    (hs : ∀ i x σ' H', xs[i]? = some x → Pv i σ' H' → g x σ' H' fun σ2 H2 => tb { D with nx := Pv (i + 1), ct := Pv (i + 1), bk := D.nx } σ2 H2) (hd : ∀ σ' H', Pv xs.length σ' H' → D.nx σ' H') : forK g tb D σ (Itt K a) H := for_tup Pv h0 hl hs hd
end
end Mine
namespace Mine
open PySem PySem.Spec PyProof.Rows L2
open Evl (Ex)

local macro_rules | `(tactic| walk_at "mcond") => `(tactic| first
  | (show (0 : Int) < _; omega)
  | (show (0 : Int) ≤ _; omega)
  | (show CDiv _ _; exact ⟨by omega, by omega⟩)
  | (show CPow _ _; exact ⟨by omega, by omega, by omega⟩)
  | (show CMul _ _; exact Or.inl ⟨by omega, by omega⟩)
  | (show CMul _ _; exact Or.inr ⟨by omega, by omega⟩)
  | assumption)
local macro_rules | `(tactic| walk_at "mtr") => `(tactic| first
  | assumption
  | (refine tr_step (H := ?_) ?_ ?_; rotate_left; (focus assumption); walk_at "mtr"))
local macro_rules | `(tactic| walk_at "msq") => `(tactic| first
  | assumption
  | (refine k_sq ?_; walk_at "mtr")
  | (refine k_st ?_; walk_at "mtr")
  | exact Evl.ex_l (by first | assumption | solve_by_elim) (by assumption)
  | exact Evl.ex_t (by first | assumption | solve_by_elim) (by assumption))
local macro_rules | `(tactic| walk_at "mins") => `(tactic| walk_at "mtr")
local macro_rules | `(tactic| walk_at "mcls") => `(tactic| first | assumption | (apply FDyadic.cl; assumption))
local macro_rules | `(tactic| walk_at "mna") => `(tactic| first | assumption | (apply FDyadic.nt; assumption) | (apply FDyadic.np; assumption))
local macro_rules | `(tactic| walk_at "mlk") => `(tactic| first | assumption | exact dfs_top _ _ | exact dfs_power _ _)
local macro_rules | `(tactic| walk_at "mdy") => `(tactic| first
  | assumption
  | (refine dy_tr (H := ?_) ?_ ?_; rotate_left; (focus assumption); walk_at "mdy"))
local macro_rules | `(tactic| walk_at "mst") => `(tactic| first
  | with_reducible refine k_seq ?_
  | with_reducible refine k_asg ?_
  | ((with_reducible refine k_fldv (v := ?_) (fs := ?_) (C := ?_) (dx := ?_) (a := ?_) ?_ ?_ ?_ ?_ ?_ ?_); rotate_left 5; (focus exact rfl); (focus walk_at "mins"); (focus walk_at "mcls"); (focus walk_at "mna"); (focus walk_at "mlk"))
  | with_reducible refine k_name ?_
  | ((with_reducible refine k_var (v := ?_) ?_ ?_); rotate_left; (focus exact rfl))
  | with_reducible refine k_c ?_
  | with_reducible refine k_op ?_
  | with_reducible refine k_un ?_
  | with_reducible refine k_I0 ?_
  | with_reducible refine k_pow12 ?_
  | with_reducible refine k_pow18 ?_
  | with_reducible refine k_pow11 ?_
  | with_reducible refine k_pow9 ?_
  | with_reducible refine k_pow30 ?_
  | ((with_reducible refine k_shl1 ?_ ?_); (focus (constructor <;> omega)); intro _ _ _)
  | ((with_reducible refine k_minL ?_); intro _ _ _ _)
  | ((with_reducible refine k_maxL ?_); intro _ _ _ _)
  | ((with_reducible refine k_I ?_ ?_); (focus walk_at "mcond"))
  | with_reducible refine k_U ?_
  | with_reducible refine k_eqI ?_
  | with_reducible refine k_eqB ?_
  | with_reducible refine k_neI ?_
  | with_reducible refine k_isTy ?_
  | with_reducible refine k_isiII ?_
  | with_reducible refine k_isiIB ?_
  | with_reducible refine k_isiBB ?_
  | with_reducible refine k_isN ?_
  | with_reducible refine k_notN ?_
  | with_reducible refine k_chain ?_
  | with_reducible refine k_bl ?_
  | with_reducible refine k_test ?_
  | with_reducible refine k_B ?_
  | with_reducible refine k_and ?_
  | with_reducible refine k_or ?_
  | with_reducible refine k_not ?_
  | with_reducible refine k_if ?_
  | with_reducible refine k_ifS ?_
  | with_reducible refine k_andV ?_
  | with_reducible refine k_orV ?_
  | with_reducible refine k_notV ?_
  | with_reducible refine k_tup ?_
  | with_reducible refine k_lst ?_
  | with_reducible refine k_cb ?_
  | with_reducible refine k_nil ?_
  | with_reducible refine k_cons ?_
  | with_reducible refine k_rInt ?_
  | with_reducible refine k_rAbs ?_
  | with_reducible refine k_rMax ?_
  | with_reducible refine k_rMin ?_
  | ((with_reducible refine k_rLenL (ys := ?_) ?_ ?_); rotate_left; (focus walk_at "msq"))
  | ((with_reducible refine k_rLenT (ys := ?_) ?_ ?_); rotate_left; (focus walk_at "msq"))
  | with_reducible refine k_bm ?_
  | with_reducible refine k_bm0 ?_
  | ((with_reducible refine k_tyl (xs := ?_) ?_ ?_); rotate_left; (focus walk_at "msq"))
  | ((with_reducible refine k_rApp (xs := ?_) ?_ ?_ ?_); rotate_left; (focus walk_at "mtr"))
  | ((with_reducible refine dy_meth (t := ?_) (p := ?_) ?_ ?_ ?_ ?_); rotate_left 2; (focus walk_at "mdy"); (focus decide +kernel); (focus decide +kernel))
  | ((with_reducible refine dy_prop (t := ?_) (p := ?_) ?_ ?_); rotate_left 2; (focus walk_at "mdy"))
  | ((with_reducible refine dy_isC (t := ?_) (p := ?_) ?_ ?_); rotate_left 2; (focus walk_at "mdy"))
  | with_reducible refine k_call ?_
  | with_reducible refine k_meth ?_
  | with_reducible refine k_make ?_
  | with_reducible refine k_prop ?_
  | with_reducible refine k_ret ?_
  | with_reducible refine k_drop ?_
  | with_reducible refine k_next ?_
  | with_reducible refine k_for ?_
  | with_reducible refine k_rng1 ?_
  | with_reducible refine k_rng2 ?_
  | with_reducible refine k_ilist ?_
  | with_reducible refine k_itup ?_
  | with_reducible refine k_iteT ?_
  | with_reducible refine k_iteNT ?_
  | with_reducible refine k_iteNF ?_
  | with_reducible refine k_raise ?_
  | with_reducible refine k_iteF ?_
  | ((with_reducible refine k_ixT (xs := ?_) (v := ?_) ?_ ?_ ?_); rotate_left 2; (focus walk_at "msq"); (focus exact rfl))
  | with_reducible refine k_gnil ?_
  | with_reducible refine k_gcons ?_)
local macro_rules | `(tactic| walk_at "mcls") => `(tactic| first | assumption | (apply FYard.cl; assumption))
local macro_rules | `(tactic| walk_at "mna") => `(tactic| first | assumption | (apply FYard.nl; assumption) | (apply FYard.nr; assumption) | (apply FYard.nh; assumption) | (apply FYard.nn; assumption) | (apply FYard.nt; assumption))
local macro_rules | `(tactic| walk_at "mlk") => `(tactic| first | exact yfs_l _ | exact yfs_r _ | exact yfs_h _ | exact yfs_n _ | exact yfs_t _)
local macro_rules | `(tactic| walk_at "myd") => `(tactic| first
  | assumption
  | (refine YardAt.ex (H := ?_) ?_ ?_; rotate_right; (focus assumption); walk_at "myd"))
local macro_rules | `(tactic| walk_at "mst") => `(tactic| first
  | with_reducible refine k_sfl ?_
  | with_reducible refine k_lc ?_
  | with_reducible refine k_dnew ?_
  | with_reducible refine k_tru ?_
  | with_reducible refine k_rng3 ?_
  | with_reducible refine k_gsub ?_
  | with_reducible refine k_set1 ?_
  | with_reducible refine k_sadd ?_
  | with_reducible refine k_revL ?_
  | with_reducible refine k_nnot ?_
  | with_reducible refine k_nget ?_
  | with_reducible refine k_nput ?_
  | with_reducible refine k_dget ?_
  | with_reducible refine k_din ?_
  | with_reducible refine k_dnotin ?_
  | with_reducible refine k_dput ?_
  | with_reducible refine k_tsl ?_
  | with_reducible refine k_part ?_
  | with_reducible refine k_nopart ?_
  | with_reducible refine k_exi ?_
  | ((with_reducible refine k_rTupL (ys := ?_) ?_ ?_); rotate_left; (focus walk_at "msq"))
  | ((with_reducible refine k_rListL (ys := ?_) ?_ ?_); rotate_left; (focus walk_at "msq"))
  | ((with_reducible refine k_rListT (ys := ?_) ?_ ?_); rotate_left; (focus walk_at "msq"))
  | ((with_reducible refine k_in (ns := ?_) ?_ ?_); rotate_left; (focus walk_at "msq")))
def sp_law_digits (K : PySem.W.Frag) : Sp := spR (fun vs H => ∃ (c n : Int), vs = [.int c, .int n] ∧ 0 ≤ n ∧ n ≤ 1000)
  (fun vs H v H' => ∃ (c n : Int) (p : Addr) (ds : List Int), vs = [.int c, .int n] ∧ v = .ref p ∧ H p = none ∧ Ex H H' ∧ H' p = some (.lst (ds.map V.int)) ∧ (ds.length : Int) = n ∧ ∀ d ∈ ds, 0 ≤ d ∧ d < 60)
abbrev N_law_digits : List Str := ["cell", "count", "row", "k", "seed"]
def t_law_digits (K : PySem.W.Frag) (E : XK) : TS := (tSeq (tAsg (tLst tNil) (gName 2)) (tSeq (tIfS (tTest (tOp rGeI (tVar 0) (tOp rPowI (tC (.int 10)) (tC (.int 18))))) (tSeq (tFor (iRng1 (tCons (tVar 1) tNil)) (gName 3) (tSeq (tDrop (tBM K "list" rAppend (tVar 2) (tCons (tOp rModI (tCB rIntI (tCons (tVar 0) tNil)) (tC (.int 60))) tNil))) (tAsg (tOp rDivI (tVar 0) (tC (.int 60))) (gName 0)))) (tRet (tVar 2))) tNext) (tSeq (tAsg (tOp rModI (tCB rIntI (tCons (tOp rAddI (tOp rMulI (tVar 0) (tC (.int 48271))) (tC (.int 11))) tNil)) (tC (.int 2147483647))) (gName 4)) (tSeq (tFor (iRng1 (tCons (tVar 1) tNil)) (gName 3) (tSeq (tAsg (tOp rModI (tCB rIntI (tCons (tOp rAddI (tOp rAddI (tOp rMulI (tVar 4) (tC (.int 69621))) (tOp rMulI (tC (.int 7)) (tVar 3))) (tC (.int 1))) tNil)) (tC (.int 2147483629))) (gName 4)) (tDrop (tBM K "list" rAppend (tVar 2) (tCons (tOp rModI (tCB rIntI (tCons (tOp rDivI (tVar 4) (tC (.int 64))) tNil)) (tC (.int 60))) tNil))))) (tRet (tVar 2))))))
theorem len_law_digits {K : PySem.W.Frag} {vs : List V} {H : Hp} {Q : VK} {E : XK} (h : sp_law_digits K vs H Q E) : vs.length = 2 := by
  obtain ⟨⟨_, _, rfl, _⟩, _⟩ := h; rfl
theorem dg_more {ds : List Int} {z : Int} (h : ∀ d ∈ ds, 0 ≤ d ∧ d < 60) (hz : 0 ≤ z ∧ z < 60) : ∀ d ∈ ds ++ [z], 0 ≤ d ∧ d < 60 := by
  intro d hd
  rcases List.mem_append.mp hd with m | m
  · exact h d m
  · rw [List.mem_singleton.mp m]; exact hz
theorem map_more (ds : List Int) (z : Int) : ds.map V.int ++ [V.int z] = (ds ++ [z]).map V.int := by simp
theorem pure_law_digits {K : PySem.W.Frag} (vs : List V) (H : Hp) (Q : VK) (E : XK) (h : sp_law_digits K vs H Q E) : t_law_digits K E { nx := fun _ H' => Q .non H', rt := Q } (start N_law_digits vs) H := by
  obtain ⟨⟨c, n, rfl, h0, h1⟩, q⟩ := h
  unfold t_law_digits
  repeat walk_at "mst"
  refine ⟨by show 0 ≤ sizeLine; decide, fun p hp => ?_⟩
  repeat walk_at "mst"
  refine k_iteD (fun hc => ?_) (fun hc => ?_)
  · repeat walk_at "mst"
    refine ⟨_, rfl, by omega, by omega, forK_range (fun i σ H' => Ex H H' ∧ ∃ (ds : List Int) (m : Int) (v w : Option V), H' p = some (.lst (ds.map V.int)) ∧ ds.length = i ∧ (∀ d ∈ ds, 0 ≤ d ∧ d < 60) ∧ σ = [some (.int m), some (.int n), some (.ref p), v, w]) ?_ ?_ ?_⟩
    · exact ⟨Evl.Ex.new hp, [], c, none, none, upd_same, rfl, by simp, rfl⟩
    · rintro i σ H' hi ⟨e, ds, m, v, w, hl, hn, hd, rfl⟩
      repeat walk_at "mst"
      · exact k_sizeL (by omega)
      repeat walk_at "mst"
      exact ⟨Evl.Ex.mut e hp, ds ++ [m % 60], _, _, _, by rw [upd_same, map_more], by simp [hn], dg_more hd ⟨by omega, by omega⟩, rfl⟩
    · rintro σ H' ⟨e, ds, m, v, w, hl, hn, hd, rfl⟩
      repeat walk_at "mst"
      exact q _ _ ⟨c, n, p, ds, rfl, rfl, hp, e, hl, by omega, hd⟩
  · repeat walk_at "mst"
    refine ⟨_, rfl, by omega, by omega, forK_range (fun i σ H' => Ex H H' ∧ ∃ (ds : List Int) (m : Int) (v : Option V), H' p = some (.lst (ds.map V.int)) ∧ ds.length = i ∧ (∀ d ∈ ds, 0 ≤ d ∧ d < 60) ∧ σ = [some (.int c), some (.int n), some (.ref p), v, some (.int m)]) ?_ ?_ ?_⟩
    · exact ⟨Evl.Ex.new hp, [], _, _, upd_same, rfl, by simp, rfl⟩
    · rintro i σ H' hi ⟨e, ds, m, v, hl, hn, hd, rfl⟩
      repeat walk_at "mst"
      · exact k_sizeL (by omega)
      repeat walk_at "mst"
      exact ⟨Evl.Ex.mut e hp, ds ++ [_], _, _, by rw [upd_same, map_more], by simp [hn], dg_more hd ⟨by omega, by omega⟩, rfl⟩
    · rintro σ H' ⟨e, ds, m, v, hl, hn, hd, rfl⟩
      repeat walk_at "mst"
      exact q _ _ ⟨c, n, p, ds, rfl, rfl, hp, e, hl, by omega, hd⟩
theorem use_digits {K : PySem.W.Frag} {H : Hp} {Q : VK} {E : XK} {c n : Int} (h : 0 ≤ n ∧ n ≤ 1000) (q : ∀ (p : Addr) (ds : List Int) (H' : Hp), H p = none → Ex H H' → H' p = some (.lst (ds.map V.int)) → (ds.length : Int) = n → (∀ d ∈ ds, 0 ≤ d ∧ d < 60) → Q (.ref p) H') : sp_law_digits K ([.int c, .int n] ++ []) H Q E := by
  refine ⟨⟨c, n, rfl, h.1, h.2⟩, ?_⟩
  rintro v H' ⟨c', n', p, ds, e, rfl, h1, h2, h3, h4, h5⟩
  cases e
  exact q p ds H' h1 h2 h3 h4 h5
def sp_law_cell (K : PySem.W.Frag) : Sp := fun vs H Q _ => ∃ (a : Addr) (ns : List Int) (k : Int), vs = [.ref a, .int k] ∧ SqL K H a (ns.map V.int) ∧ 0 ≤ k ∧ ∀ i, (i ∈ ns ∨ (0 ≤ i ∧ i < 2147483647) ∨ i = 104729 * k + 7) → Q (.int i) H
abbrev N_law_cell : List Str := ["script", "k", "mixed", "cell"]
def t_law_cell (K : PySem.W.Frag) (E : XK) : TS := (tSeq (tIfS (tTest (tOp rLtI (tVar 1) (tCB (rLenQ K) (tCons (tVar 0) tNil)))) (tRet (tOp (rIxL K) (tVar 0) (tVar 1))) tNext) (tSeq (tAsg (tOp rAddI (tOp rMulI (tC (.int 104729)) (tVar 1)) (tC (.int 7))) (gName 2)) (tSeq (tFor (iList K (tVar 0)) (gName 3) (tAsg (tOp rModI (tCB rIntI (tCons (tOp rAddI (tOp rMulI (tVar 2) (tC (.int 31))) (tVar 3)) tNil)) (tC (.int 2147483647))) (gName 2))) (tRet (tVar 2)))))
theorem len_law_cell {K : PySem.W.Frag} {vs : List V} {H : Hp} {Q : VK} {E : XK} (h : sp_law_cell K vs H Q E) : vs.length = 2 := by
  obtain ⟨_, _, _, rfl, _⟩ := h; rfl
theorem pure_law_cell {K : PySem.W.Frag} (vs : List V) (H : Hp) (Q : VK) (E : XK) (h : sp_law_cell K vs H Q E) : t_law_cell K E { nx := fun _ H' => Q .non H', rt := Q } (start N_law_cell vs) H := by
  obtain ⟨a, ns, k, rfl, hS, hk, q⟩ := h
  unfold t_law_cell
  repeat walk_at "mst"
  refine k_iteD (fun hc => ?_) (fun hc => ?_)
  · rw [List.length_map] at hc
    obtain ⟨z, mz, hz⟩ := at_int hk hc
    repeat walk_at "mst"
    exact k_ixL hS hz (q _ (Or.inl (List.mem_of_getElem? mz)))
  · repeat walk_at "mst"
    refine ⟨a, rfl, ⟨_, hS⟩, forK_list (xs := ns.map V.int) (fun i σ H' => H' = H ∧ ∃ (m : Int) (v : Option V), ((0 ≤ m ∧ m < 2147483647) ∨ m = 104729 * k + 7) ∧ σ = [some (.ref a), some (.int k), some (.int m), v]) ⟨rfl, _, _, Or.inr rfl, rfl⟩ ?_ ?_ ?_⟩
    · rintro i σ H' _ ⟨rfl, _⟩; exact hS
    · rintro i x σ H' hx ⟨rfl, m, v, _, rfl⟩
      obtain ⟨z, _, rfl⟩ := get_int hx
      repeat walk_at "mst"
      exact ⟨rfl, _, _, Or.inl ⟨by omega, by omega⟩, rfl⟩
    · rintro σ H' ⟨rfl, m, v, b, rfl⟩
      repeat walk_at "mst"
      exact q _ (Or.inr b)
theorem use_cellB {K : PySem.W.Frag} {H : Hp} {Q : VK} {E : XK} {a : Addr} {ns : List Int} {k : Int} (h : SqL K H a (ns.map V.int)) (h0 : 0 ≤ k) (q : ∀ i, (i ∈ ns ∨ (0 ≤ i ∧ i < 2147483647) ∨ i = 104729 * k + 7) → Q (.int i) H) : sp_law_cell K ([.ref a, .int k] ++ []) H Q E := ⟨a, ns, k, rfl, h, h0, q⟩
theorem use_cell {K : PySem.W.Frag} {H : Hp} {Q : VK} {E : XK} {a : Addr} {ns : List Int} {k : Int} (h : SqL K H a (ns.map V.int)) (h0 : 0 ≤ k) (q : ∀ i, Q (.int i) H) : sp_law_cell K ([.ref a, .int k] ++ []) H Q E := ⟨a, ns, k, rfl, h, h0, fun i _ => q i⟩
def sp_law_goals (K : PySem.W.Frag) : Sp := fun vs H Q _ => ∃ (dp : Addr) (ds : List Int) (p m : Int), vs = [.ref dp, .int p, .int m] ∧ H dp = some (.lst (ds.map V.int)) ∧ (∀ d ∈ ds, 0 ≤ d ∧ d < 60) ∧ 5 ≤ ds.length ∧ 0 ≤ p ∧ p < m ∧ m ≤ 40 ∧ ∀ t g H', H t = none → Ex H H' → H' t = some (.tup (g.map V.int)) → AscF (p + 1) m g → Q (.ref t) H'
local macro_rules | `(tactic| walk_at "new") => `(tactic| ((first | refine ⟨fits (Nat.le_of_ble_eq_true rfl), ?_⟩ | skip); intro p np; generalize hq : upd _ p _ = H1; have e1 := nx np hq; have s1 := nS hq; clear hq))
abbrev N_law_goals : List Str := ["digits", "place", "many", "picked", "k", "goal"]
def t_law_goals (K : PySem.W.Frag) (E : XK) : TS := (tSeq (tIfS (tTest (tOp rEq (tVar 1) (tOp rSubI (tVar 2) (tC (.int 1))))) (tRet (tTup tNil)) tNext) (tSeq (tAsg (tLc (iRng1 (tCons (tOp rModI (tCB rIntI (tCons (tOp (rIxL K) (tVar 0) (tC (.int 0))) tNil)) (tC (.int 5))) tNil)) (gName 4) tYes (tOp rAddI (tOp rAddI (tVar 1) (tC (.int 1))) (tOp rModI (tCB rIntI (tCons (tOp (rIxL K) (tVar 0) (tOp rAddI (tC (.int 1)) (tVar 4))) tNil)) (tOp rSubI (tOp rSubI (tVar 2) (tVar 1)) (tC (.int 1))))) [4]) (gName 3)) (tRet (tCB (rTupL K) (tCons (tLc (iRng2 (tCons (tOp rAddI (tVar 1) (tC (.int 1))) (tCons (tVar 2) tNil))) (gName 5) (tTest (tOp (rIn K false) (tVar 5) (tVar 3))) (tVar 5) [5]) tNil)))))
theorem len_law_goals {K : PySem.W.Frag} {vs : List V} {H : Hp} {Q : VK} {E : XK} (h : sp_law_goals K vs H Q E) : vs.length = 3 := by
  obtain ⟨_, _, _, _, rfl, _⟩ := h; rfl
theorem pure_law_goals {K : PySem.W.Frag} (vs : List V) (H : Hp) (Q : VK) (E : XK) (h : sp_law_goals K vs H Q E) : t_law_goals K E { nx := fun _ H' => Q .non H', rt := Q } (start N_law_goals vs) H := by
  obtain ⟨dp, ds, p, m, rfl, hd, hb, hl, p0, pm, m40, q⟩ := h
  obtain ⟨d0, a0, b0, _⟩ := dg_of hb (k := 0) (by decide) (by omega)
  unfold t_law_goals
  repeat walk_at "mst"
  refine k_iteD (fun z => ?_) (fun z => ?_)
  · repeat walk_at "mst"
    walk_at "new"; rename_i t nt H1 e1 s1
    exact q t [] H1 nt e1 s1 trivial
  · repeat walk_at "mst"
    refine k_ixL (k_sq hd) a0 ?_
    repeat walk_at "mst"
    refine ⟨_, rfl, by omega, by omega, ?_⟩
    refine lcR_rng (n := (d0 % 5).toNat) (fun i => some (V.int (p + 1 + ds.getD (1 + (i : Int)).toNat 0 % (m - p - 1)))) (fits' (by omega)) (fun i hi => ?_) fun pk H2 np e2 hpk => ?_
    · obtain ⟨z, h1, _, h3⟩ := dg_of hb (k := 1 + (i : Int)) (by omega) (by omega)
      refine turn_map fun H'' e R r => ?_
      have hd' := e _ _ hd
      repeat walk_at "mst"
      refine k_ixL (k_sq hd') h1 ?_
      rw [← h3] at r
      repeat walk_at "mst"
      exact r
    · rw [rng_map _ fun i => p + 1 + ds.getD (1 + (i : Int)).toNat 0 % (m - p - 1)] at hpk
      generalize ((List.range (d0 % 5).toNat).map fun (i : Nat) => p + 1 + ds.getD (1 + (i : Int)).toNat 0 % (m - p - 1)) = pick at *
      repeat walk_at "mst"
      refine ⟨_, _, rfl, ⟨by omega, by omega, by omega, by omega⟩, ?_⟩
      refine lcR_rngL (lo := p + 1) (n := (m - (p + 1)).toNat) (fun i => if decide (p + 1 + (i : Int) ∈ pick) = true then some (V.int (p + 1 + (i : Int))) else none) (fits' (by omega)) (fun i hi => ?_) fun kp H3 nk e3 hk => ?_
      · refine turn_flt fun H'' e R r => ?_
        have hp' := e _ _ hpk
        repeat walk_at "mst"
        exact r
      · rw [keptL_map (p + 1) _ fun i => decide (p + 1 + (i : Int) ∈ pick)] at hk
        repeat walk_at "mst"
        walk_at "new"; rename_i t nt H4 e4 s4
        exact q t _ H4 (Evl.fresh_back (e2.trans e3) nt) ((e2.trans e3).trans e4) s4 (keptL_asc _ _ _ _ (by omega))
theorem use_goals {K : PySem.W.Frag} {H : Hp} {Q : VK} {E : XK} {dp : Addr} {ds : List Int} {p m : Int} (hd : H dp = some (.lst (ds.map V.int))) (hb : ∀ d ∈ ds, 0 ≤ d ∧ d < 60) (hl : 5 ≤ ds.length) (p0 : 0 ≤ p) (pm : p < m) (m40 : m ≤ 40) (q : ∀ t g H', H t = none → Ex H H' → H' t = some (.tup (g.map V.int)) → AscF (p + 1) m g → Q (.ref t) H') : sp_law_goals K ([.ref dp, .int p, .int m] ++ []) H Q E := ⟨dp, ds, p, m, rfl, hd, hb, hl, p0, pm, m40, q⟩
def sp_law_rows (K : PySem.W.Frag) : Sp := fun vs H Q _ => ∃ (a : Addr) (sc : List Int) (f c : Int), vs = [.ref a, .int f, .int c] ∧ SqL K H a (sc.map V.int) ∧ 0 ≤ f ∧ ∀ p xs rs H', H p = none → Ex H H' → H' p = some (.lst xs) → RsAt H' xs rs → OkR rs → Q (.ref p) H'
local macro_rules | `(tactic| walk_at "new") => `(tactic| ((first | refine ⟨fits (Nat.le_of_ble_eq_true rfl), ?_⟩ | skip); intro p np; generalize hq : upd _ p _ = H1; have e1 := nx np hq; have s1 := nS hq; clear hq))
abbrev N_law_rows : List Str := ["script", "first", "cell", "many", "rows", "place", "digits"]
def t_law_rows (K : PySem.W.Frag) (E : XK) : TS := (tSeq (tAsg (tOp rAddI (tC (.int 1)) (tOp rModI (tCB rIntI (tCons (tVar 2) tNil)) (tC (.int 40)))) (gName 3)) (tSeq (tAsg (tLst tNil) (gName 4)) (tSeq (tFor (iRng1 (tCons (tVar 3) tNil)) (gName 5) (tSeq (tAsg (tCall (sp_law_digits K) [] E0 (tCons (tCall (sp_law_cell K) [] E0 (tCons (tVar 0) (tCons (tOp rAddI (tVar 1) (tVar 5)) tNil))) (tCons (tC (.int 10)) tNil))) (gName 6)) (tDrop (tBM K "list" rAppend (tVar 4) (tCons (tTup (tCons (tCall (sp_law_goals K) [] E0 (tCons (tVar 6) (tCons (tVar 5) (tCons (tVar 3) tNil)))) (tCons (tCall (sp_law_goals K) [] E0 (tCons (tSl (rSlL K) (tVar 6) (tPart (tC (.int 5))) tNoPart) (tCons (tVar 5) (tCons (tVar 3) tNil)))) tNil))) tNil))))) (tRet (tVar 4)))))
theorem len_law_rows {K : PySem.W.Frag} {vs : List V} {H : Hp} {Q : VK} {E : XK} (h : sp_law_rows K vs H Q E) : vs.length = 3 := by
  obtain ⟨_, _, _, _, rfl, _⟩ := h; rfl
theorem cut_ints5 {ds : List Int} (h : 5 ≤ ds.length) : cutV (ds.map V.int) (some 5) none = (ds.drop 5).map V.int := by
  rw [show (5 : Int) = ((5 : Nat) : Int) from rfl, cut_on h]
theorem pure_law_rows {K : PySem.W.Frag} (vs : List V) (H : Hp) (Q : VK) (E : XK) (h : sp_law_rows K vs H Q E) : t_law_rows K E { nx := fun _ H' => Q .non H', rt := Q } (start N_law_rows vs) H := by
  obtain ⟨a, sc, f, c, rfl, hS, f0, q⟩ := h
  unfold t_law_rows
  repeat walk_at "mst"
  obtain ⟨m, em, m1, m40⟩ : ∃ m : Nat, 1 + c % 40 = (m : Int) ∧ 1 ≤ m ∧ m ≤ 40 := ⟨(1 + c % 40).toNat, by omega, by omega, by omega⟩
  rw [em]
  walk_at "new"; rename_i D nD H1 e1 s1
  repeat walk_at "mst"
  refine ⟨_, rfl, by omega, by omega, ?_⟩
  rw [Int.toNat_natCast]
  refine forK_range (fun i σ H' => ∃ (xs : List V) (rs : List RowG) (x5 x6 : Option V), Ex H H' ∧ H' D = some (.lst xs) ∧ RsAt H' xs rs ∧ rs.length = i ∧ (∀ (j : Nat) (r : RowG), rs[j]? = some r → AscF ((j : Int) + 1) m r.1 ∧ AscF ((j : Int) + 1) m r.2) ∧ σ = [some (.ref a), some (.int f), some (.int c), some (.int (m : Int)), some (.ref D), x5, x6]) ⟨[], [], none, none, e1, s1, ⟨rfl, fun i r h => by simp at h⟩, rfl, fun j r h => by simp at h, rfl⟩ ?_ ?_
  · rintro i σ H' hi ⟨xs, rs, x5, x6, e, hd, R, rl, asc, rfl⟩
    repeat walk_at "mst"
    refine use_cell (Evl.ex_l e hS) (by omega) fun c1 => ?_
    repeat walk_at "mst"
    refine use_digits ⟨by decide, by decide⟩ fun dp ds H2 ndp e2 hdp hl hb => ?_
    repeat walk_at "mst"
    refine use_goals hdp hb (by omega) (by omega) (by omega) (by omega) fun t1 g1 H3 nt1 e3 ht1 as1 => ?_
    repeat walk_at "mst"
    refine n_sl (k_sq (e3 _ _ hdp)) fun sl H4 nsl e4 hsl => ?_
    rw [cut_ints5 (by omega)] at hsl
    repeat walk_at "mst"
    refine use_goals hsl (fun d m => hb d (List.mem_of_mem_drop m)) (by rw [List.length_drop]; omega) (by omega) (by omega) (by omega) fun t2 g2 H5 nt2 e5 ht2 as2 => ?_
    repeat walk_at "mst"
    walk_at "new"; rename_i y ny H6 e6 s6
    have e16 := (e2.trans e3).trans ((e4.trans e5).trans e6)
    have hd6 := e16 _ _ hd
    have ro : RoAt H6 (.ref y) (g1, g2) := ⟨y, _, _, rfl, s6, ⟨t1, rfl, e6 _ _ (e5 _ _ (e4 _ _ ht1))⟩, ⟨t2, rfl, e6 _ _ ht2⟩⟩
    have R6 := (R.ex e16).snoc ro
    have xl := R.1
    repeat walk_at "mst"
    · exact fits' (by omega)
    refine ⟨_, _, _, _, Evl.Ex.mut (e.trans e16) nD, upd_same, R6.keep fun c o z n => (upd_ne fun e => n _ (by rw [e, hd6] at z; exact (Option.some.inj z).symm)).trans z, by rw [List.length_append, rl]; rfl, fun j r hj => ?_, rfl⟩
    rcases get_snoc hj with h | ⟨rfl, rfl⟩
    · exact asc j r h
    · rw [rl]; exact ⟨as1, as2⟩
  · rintro σ H' ⟨xs, rs, x5, x6, e, hd, R, rl, asc, rfl⟩
    repeat walk_at "mst"
    exact q D xs rs H' nD e hd R ⟨by omega, by omega, by rw [rl]; exact asc⟩
theorem use_rows {K : PySem.W.Frag} {H : Hp} {Q : VK} {E : XK} {a : Addr} {sc : List Int} {f c : Int} (hS : SqL K H a (sc.map V.int)) (f0 : 0 ≤ f) (q : ∀ p xs rs H', H p = none → Ex H H' → H' p = some (.lst xs) → RsAt H' xs rs → OkR rs → Q (.ref p) H') : sp_law_rows K ([.ref a, .int f, .int c] ++ []) H Q E := ⟨a, sc, f, c, rfl, hS, f0, q⟩
/-- a thing of a known kind: whether it is an int within bounds -/
def wholeV (x : V) (lo hi : Int) : Bool := match x with
  | .int i => decide (lo ≤ i) && decide (i ≤ hi)
  | _ => false
def sp_is_whole (K : PySem.W.Frag) : Sp := spR (fun vs H => ∃ (x : V) (T : String) (lo hi : Int), vs = [x, .int lo, .int hi] ∧ TyB K H x T)
  (fun vs H v H' => ∃ (x : V) (lo hi : Int), vs = [x, .int lo, .int hi] ∧ v = .bl (wholeV x lo hi) ∧ H' = H)
abbrev N_is_whole : List Str := ["thing", "least", "most"]
def t_is_whole (K : PySem.W.Frag) (E : XK) : TS := (tRet (tAndV (tOp rIsTy (tCB (rTyp K) (tCons (tVar 0) tNil)) (tC (.ty "int"))) (tChain rLeI rLeI (tVar 1) (tVar 0) (tVar 2))))
theorem len_is_whole {K : PySem.W.Frag} {vs : List V} {H : Hp} {Q : VK} {E : XK} (h : sp_is_whole K vs H Q E) : vs.length = 3 := by
  obtain ⟨⟨_, _, _, _, rfl, _⟩, _⟩ := h; rfl
theorem whole_ty {K : PySem.W.Frag} {H : Hp} {x : V} {T : String} (t : TyB K H x T) : (T = "int" ∧ ∃ i, x = .int i) ∨ (T ≠ "int" ∧ ∀ lo hi, wholeV x lo hi = false) := by
  cases t
  case int i => exact Or.inl ⟨rfl, i, rfl⟩
  all_goals exact Or.inr ⟨by decide, fun _ _ => rfl⟩
theorem pure_is_whole {K : PySem.W.Frag} (vs : List V) (H : Hp) (Q : VK) (E : XK) (h : sp_is_whole K vs H Q E) : t_is_whole K E { nx := fun _ H' => Q .non H', rt := Q } (start N_is_whole vs) H := by
  obtain ⟨⟨x, T, lo, hi, rfl, ht⟩, q⟩ := h
  unfold t_is_whole
  repeat walk_at "mst"
  refine ⟨x, T, rfl, ht, ?_⟩
  repeat walk_at "mst"
  rcases whole_ty ht with ⟨e, i, rfl⟩ | ⟨e, hf⟩
  · refine k_iteD (fun _ => ?_) (fun hn => absurd e hn)
    repeat walk_at "mst"
    refine k_iteD (fun h1 => ?_) (fun h1 => ?_)
    · repeat walk_at "mst"
      refine q _ _ ⟨_, lo, hi, rfl, ?_, rfl⟩
      show V.bl (decide (i ≤ hi)) = V.bl (decide (lo ≤ i) && decide (i ≤ hi))
      rw [decide_eq_true h1, Bool.true_and]
    · refine q _ _ ⟨_, lo, hi, rfl, ?_, rfl⟩
      show V.bl false = V.bl (decide (lo ≤ i) && decide (i ≤ hi))
      rw [decide_eq_false h1, Bool.false_and]
  · refine k_iteD (fun hy => absurd hy e) (fun _ => ?_)
    exact q _ _ ⟨x, lo, hi, rfl, by rw [hf], rfl⟩
def sp_check_row (K : PySem.W.Frag) : Sp := fun vs H Q E => ∃ (y : V) (p c : Int), vs = [y, .int p, .int c] ∧ ((∃ r, RoAt H y r ∧ AscF (p + 1) c r.1 ∧ AscF (p + 1) c r.2 ∧ Q .non H) ∨ (BadR K H wholeV p c y ∧ E (.ref (He.ga K "BadValue")) none H))
theorem k_NT {H : Hp} {Q : VK} {a b : String} (q : Q (.bl (!decide (a = b))) H) : rNT (.ty a) (.ty b) H Q := ⟨a, b, rfl, rfl, q⟩
abbrev N_check_row : List Str := ["row", "at", "count", "places", "least", "place"]
def t_check_row (K : PySem.W.Frag) (E : XK) : TS := (tSeq (tIfS (tOr (tTest (tOp rNT (tCB (rTyp K) (tCons (tVar 0) tNil)) (tC (.ty "tuple")))) (tTest (tOp rNe (tCB (rLenQ K) (tCons (tVar 0) tNil)) (tC (.int 2))))) (tRaise E (.ref (He.ga K "BadValue"))) tNext) (tFor (iTup K (tVar 0)) (gName 3) (tSeq (tIfS (tTest (tOp rNT (tCB (rTyp K) (tCons (tVar 3) tNil)) (tC (.ty "tuple")))) (tRaise E (.ref (He.ga K "BadValue"))) tNext) (tSeq (tAsg (tOp rAddI (tVar 1) (tC (.int 1))) (gName 4)) (tFor (iTup K (tVar 3)) (gName 5) (tSeq (tIfS (tNot (tB (tCall (sp_is_whole K) [] E0 (tCons (tVar 5) (tCons (tVar 4) (tCons (tOp rSubI (tVar 2) (tC (.int 1))) tNil)))))) (tRaise E (.ref (He.ga K "BadValue"))) tNext) (tAsg (tOp rAddI (tVar 5) (tC (.int 1))) (gName 4))))))))
theorem len_check_row {K : PySem.W.Frag} {vs : List V} {H : Hp} {Q : VK} {E : XK} (h : sp_check_row K vs H Q E) : vs.length = 3 := by
  obtain ⟨_, _, _, rfl, _⟩ := h; rfl
theorem pure_check_row {K : PySem.W.Frag} (vs : List V) (H : Hp) (Q : VK) (E : XK) (h : sp_check_row K vs H Q E) : t_check_row K E { nx := fun _ H' => Q .non H', rt := Q } (start N_check_row vs) H := by
  obtain ⟨y, p, c, rfl, h⟩ := h
  unfold t_check_row
  have two : ∀ (a : Addr) (y1 y2 : V) (j0 : Nat), y = .ref a → H a = some (.tup [y1, y2]) → (∀ i < j0, ∃ y', [y1, y2][i]? = some y' ∧ ∃ g, GoAt H y' g ∧ AscF (p + 1) c g) → (j0 < 2 → ∃ y', [y1, y2][j0]? = some y' ∧ BadP K H wholeV p c y' ∧ E (.ref (He.ga K "BadValue")) none H) → (2 ≤ j0 → Q .non H) → t_check_row K E { nx := fun _ H' => Q .non H', rt := Q } (start N_check_row [y, .int p, .int c]) H := by
    rintro a y1 y2 j0 rfl ha good bad fin
    unfold t_check_row
    repeat walk_at "mst"
    refine ⟨_, "tuple", rfl, .tup (k_st ha), ?_⟩
    repeat walk_at "mst"
    refine k_NT ?_
    rw [decide_eq_true rfl]
    repeat walk_at "mst"
    refine k_iteD (fun z => absurd rfl z) (fun _ => ?_)
    repeat walk_at "mst"
    refine ⟨a, rfl, ⟨_, k_st ha⟩, forK_tup (xs := [y1, y2]) (fun i σ H' => H' = H ∧ i ≤ j0 ∧ ∃ x3 x4 x5 : Option V, σ = [some (.ref a), some (.int p), some (.int c), x3, x4, x5]) ⟨rfl, Nat.zero_le _, _, _, _, rfl⟩ ?_ ?_ ?_⟩
    · rintro i σ H' _ ⟨rfl, _⟩; exact k_st ha
    · rintro i x σ H' hx ⟨rfl, ij, x3, x4, x5, rfl⟩
      rcases Nat.lt_or_ge i j0 with l | l
      · obtain ⟨y', hy, g, ⟨u, rfl, hu⟩, as⟩ := good i l
        rw [hx] at hy
        injection hy with hy
        subst hy
        repeat walk_at "mst"
        refine ⟨_, "tuple", rfl, .tup (k_st hu), ?_⟩
        repeat walk_at "mst"
        refine k_NT ?_
        rw [decide_eq_true rfl]
        repeat walk_at "mst"
        refine ⟨u, rfl, ⟨_, k_st hu⟩, forK_tup (xs := g.map V.int) (fun j σ H'' => H'' = H' ∧ ∃ (le : Int) (x5 : Option V), AscF le c (g.drop j) ∧ σ = [some (.ref a), some (.int p), some (.int c), some (.ref u), some (.int le), x5]) ⟨rfl, _, _, by rw [List.drop_zero]; exact as, rfl⟩ ?_ ?_ ?_⟩
        · rintro j σ H'' _ ⟨rfl, _⟩; exact k_st hu
        · rintro j x σ H'' hx ⟨rfl, le, x5, af, rfl⟩
          obtain ⟨z, hz, rfl⟩ := get_int hx
          have hj := (List.getElem?_eq_some_iff.mp hz).1
          rw [List.drop_eq_getElem_cons hj, (List.getElem?_eq_some_iff.mp hz).2] at af
          obtain ⟨a1, a2, a3⟩ := af
          repeat walk_at "mst"
          refine ⟨⟨V.int z, "int", _, _, rfl, .int z⟩, ?_⟩
          rintro v H1 ⟨x', lo, hi, e, rfl, rfl⟩
          cases e
          repeat walk_at "mst"
          have e : wholeV (V.int z) le (c - 1) = true := by
            show (decide (le ≤ z) && decide (z ≤ c - 1)) = true
            rw [decide_eq_true a1, decide_eq_true a2]; rfl
          rw [e]
          repeat walk_at "mst"
          exact ⟨rfl, _, _, a3, rfl⟩
        · rintro σ H'' ⟨rfl, le, x5, _, rfl⟩
          exact ⟨rfl, l, _, _, _, rfl⟩
      · have ei : i = j0 := by omega
        subst ei
        have i2 : i < 2 := (List.getElem?_eq_some_iff.mp hx).1
        obtain ⟨y', hy, bp, r⟩ := bad i2
        rw [hx] at hy
        injection hy with hy
        subst hy
        rcases bp with ⟨T, t, n⟩ | ⟨u, xs, rfl, hu, bf⟩
        · repeat walk_at "mst"
          refine ⟨_, T, rfl, t, ?_⟩
          repeat walk_at "mst"
          refine k_NT ?_
          rw [decide_eq_false n]
          repeat walk_at "mst"
          exact r
        · repeat walk_at "mst"
          refine ⟨_, "tuple", rfl, .tup (k_st hu), ?_⟩
          repeat walk_at "mst"
          refine k_NT ?_
          rw [decide_eq_true rfl]
          repeat walk_at "mst"
          refine ⟨u, rfl, ⟨_, k_st hu⟩, forK_tup (xs := xs) (fun j σ H'' => H'' = H' ∧ ∃ (le : Int) (x5 : Option V), BadF K H' c wholeV le (xs.drop j) ∧ σ = [some (.ref a), some (.int p), some (.int c), some (.ref u), some (.int le), x5]) ⟨rfl, _, _, by rw [List.drop_zero]; exact bf, rfl⟩ ?_ ?_ ?_⟩
          · rintro j σ H'' _ ⟨rfl, _⟩; exact k_st hu
          · rintro j x σ H'' hx ⟨rfl, le, x5, af, rfl⟩
            have hj := (List.getElem?_eq_some_iff.mp hx).1
            rw [List.drop_eq_getElem_cons hj, (List.getElem?_eq_some_iff.mp hx).2] at af
            obtain ⟨⟨T, tT⟩, a3⟩ := af
            repeat walk_at "mst"
            refine ⟨⟨x, T, _, _, rfl, tT⟩, ?_⟩
            rintro v H1 ⟨x', lo, hi, e, rfl, rfl⟩
            cases e
            repeat walk_at "mst"
            rcases a3 with w | ⟨z, rfl, w, bf2⟩
            · rw [w]
              repeat walk_at "mst"
              exact r
            · rw [w]
              repeat walk_at "mst"
              exact ⟨rfl, _, _, bf2, rfl⟩
          · rintro σ H'' ⟨rfl, le, x5, af, rfl⟩
            rw [List.drop_eq_nil_of_le (Nat.le_refl _)] at af
            exact absurd af id
    · rintro σ H' ⟨rfl, ij, x3, x4, x5, rfl⟩
      exact fin ij
  rcases h with ⟨r, ⟨a, y1, y2, rfl, ha, g1, g2⟩, c1, c2, q⟩ | ⟨br, q⟩
  · refine two a y1 y2 2 rfl ha (fun i hi => ?_) (fun h => absurd h (by decide)) (fun _ => q)
    match i with
    | 0 => exact ⟨_, rfl, _, g1, c1⟩
    | 1 => exact ⟨_, rfl, _, g2, c2⟩
    | i + 2 => omega
  · rcases br with ⟨T, t, n⟩ | ⟨a, xs, rfl, ha, l2⟩ | ⟨a, y1, y2, rfl, ha, b1 | ⟨g, g1, c1, b2⟩⟩
    · repeat walk_at "mst"
      refine ⟨_, T, rfl, t, ?_⟩
      repeat walk_at "mst"
      refine k_NT ?_
      rw [decide_eq_false n]
      repeat walk_at "mst"
      exact q
    · repeat walk_at "mst"
      refine ⟨_, "tuple", rfl, .tup (k_st ha), ?_⟩
      repeat walk_at "mst"
      refine k_NT ?_
      rw [decide_eq_true rfl]
      repeat walk_at "mst"
      refine k_iteD (fun _ => ?_) (fun z => absurd (show ((xs.length : Nat) : Int) ≠ 2 by omega) z)
      repeat walk_at "mst"
      exact q
    · exact two a y1 y2 0 rfl ha (fun i hi => absurd hi (Nat.not_lt_zero _)) (fun _ => ⟨_, rfl, b1, q⟩) (fun h => absurd h (by decide))
    · refine two a y1 y2 1 rfl ha (fun i hi => ?_) (fun _ => ⟨_, rfl, b2, q⟩) (fun h => absurd h (by decide))
      have : i = 0 := by omega
      subst this
      exact ⟨_, rfl, g, g1, c1⟩
theorem use_check {K : PySem.W.Frag} {H : Hp} {Q : VK} {E : XK} {y : V} {p c : Int} (h : (∃ r, RoAt H y r ∧ AscF (p + 1) c r.1 ∧ AscF (p + 1) c r.2 ∧ Q .non H) ∨ (BadR K H wholeV p c y ∧ E (.ref (He.ga K "BadValue")) none H)) : sp_check_row K ([y, .int p, .int c] ++ []) H Q E := ⟨y, p, c, rfl, h⟩
def sp_Table_d_init (K : PySem.W.Frag) : Sp := fun vs H Q E => ∃ (p dx : Addr) (x pl : V), vs = [.ref p, x, pl] ∧ H p = some (.ins (He.ga K "Table") dx []) ∧ (
  (∃ a xs rs z, x = .ref a ∧ pl = .int z ∧ SqL K H a xs ∧ RsAt H xs rs ∧ OkR rs ∧ 0 ≤ z ∧ z < rs.length ∧ ∀ t H', H t = none → (∀ c o, H c = some o → c ≠ p → H' c = some o) → H' t = some (.tup xs) → H' p = some (.ins (He.ga K "Table") dx (tfs t pl)) → Q .non H')
  ∨ (∃ T, TyB K H x T ∧ T ≠ "list" ∧ E (.ref (He.ga K "BadValue")) none H)
  ∨ (∃ a xs, x = .ref a ∧ SqL K H a xs ∧ (xs.length = 0 ∨ (40 < xs.length ∧ xs.length ≤ 1000)) ∧ E (.ref (He.ga K "BadValue")) none H)
  ∨ (∃ a xs i y, x = .ref a ∧ SqL K H a xs ∧ xs.length ≤ 40 ∧ xs[i]? = some y ∧ BadR K H wholeV (i : Nat) xs.length y ∧ (∀ (j : Nat) (y : V), j < i → xs[j]? = some y → ∃ r, RoAt H y r ∧ AscF ((j : Int) + 1) xs.length r.1 ∧ AscF ((j : Int) + 1) xs.length r.2) ∧ ∀ H', Ex H H' → E (.ref (He.ga K "BadValue")) none H')
  ∨ (∃ a xs rs T, x = .ref a ∧ SqL K H a xs ∧ RsAt H xs rs ∧ OkR rs ∧ TyB K H pl T ∧ wholeV pl 0 (xs.length - 1) = false ∧ ∀ H', Ex H H' → E (.ref (He.ga K "BadValue")) none H'))
local macro_rules | `(tactic| walk_at "mst") => `(tactic| first
  | with_reducible refine k_enumL ?_)
theorem k_iteD' {p A B : Prop} [Decidable p] (h1 : p → A) (h2 : ¬ p → B) : if (!decide p) = true then B else A := by
  by_cases z : p
  · rw [decide_eq_true z]; exact h1 z
  · rw [decide_eq_false z]; exact h2 z
abbrev N_Table_d_init : List Str := ["self", "rows", "place", "at", "row"]
def t_Table_d_init (K : PySem.W.Frag) (E : XK) : TS := (tSeq (tIfS (tOr (tTest (tOp rNT (tCB (rTyp K) (tCons (tVar 1) tNil)) (tC (.ty "list")))) (tNot (tTest (tChain rLeI rLeI (tC (.int 1)) (tCB (rLenQ K) (tCons (tVar 1) tNil)) (tC (.int 40)))))) (tRaise E (.ref (He.ga K "BadValue"))) tNext) (tSeq (tFor (iEnum K (tCons (tVar 1) tNil)) (gTup K 2 (gCons (gName 3) (gCons (gName 4) gNil))) (tDrop (tCall (sp_check_row K) [] E (tCons (tVar 4) (tCons (tVar 3) (tCons (tCB (rLenQ K) (tCons (tVar 1) tNil)) tNil)))))) (tSeq (tIfS (tNot (tB (tCall (sp_is_whole K) [] E0 (tCons (tVar 2) (tCons (tC (.int 0)) (tCons (tOp rSubI (tCB (rLenQ K) (tCons (tVar 1) tNil)) (tC (.int 1))) tNil)))))) (tRaise E (.ref (He.ga K "BadValue"))) tNext) (tSeq (sFld K (tVar 0) (tCB (rTupL K) (tCons (tVar 1) tNil)) "_rows") (sFld K (tVar 0) (tVar 2) "_place")))))
theorem len_Table_d_init {K : PySem.W.Frag} {vs : List V} {H : Hp} {Q : VK} {E : XK} (h : sp_Table_d_init K vs H Q E) : vs.length = 3 := by
  obtain ⟨_, _, _, _, rfl, _⟩ := h; rfl
theorem pure_Table_d_init {K : PySem.W.Frag} (F : FTable K) (vs : List V) (H : Hp) (Q : VK) (E : XK) (h : sp_Table_d_init K vs H Q E) : t_Table_d_init K E { nx := fun _ H' => Q .non H', rt := Q } (start N_Table_d_init vs) H := by
  obtain ⟨p, dx, x, pl, rfl, hp, h⟩ := h
  have walk : ∀ (a : Addr) (xs : List V) (i0 : Nat), x = .ref a → SqL K H a xs → 1 ≤ xs.length → xs.length ≤ 40 → i0 ≤ xs.length →
      (∀ (j : Nat) (y : V), j < i0 → xs[j]? = some y → ∃ r, RoAt H y r ∧ AscF ((j : Int) + 1) xs.length r.1 ∧ AscF ((j : Int) + 1) xs.length r.2) →
      (i0 < xs.length → ∃ y, xs[i0]? = some y ∧ BadR K H wholeV (i0 : Nat) xs.length y ∧ ∀ H', Ex H H' → E (.ref (He.ga K "BadValue")) none H') →
      (i0 = xs.length → ∃ T, TyB K H pl T) →
      (i0 = xs.length → wholeV pl 0 (xs.length - 1) = false → ∀ H', Ex H H' → E (.ref (He.ga K "BadValue")) none H') →
      (i0 = xs.length → wholeV pl 0 (xs.length - 1) = true → ∀ t H', H t = none → (∀ c o, H c = some o → c ≠ p → H' c = some o) → H' t = some (.tup xs) → H' p = some (.ins (He.ga K "Table") dx (tfs t pl)) → Q .non H') →
      t_Table_d_init K E { nx := fun _ H' => Q .non H', rt := Q } (start N_Table_d_init [.ref p, x, pl]) H := by
    rintro a xs i0 rfl hS l1 l40 il good bad ty bp gp
    unfold t_Table_d_init
    repeat walk_at "mst"
    refine ⟨_, "list", rfl, .lst hS, ?_⟩
    repeat walk_at "mst"
    refine k_NT ?_
    rw [decide_eq_true rfl]
    repeat walk_at "mst"
    refine k_iteD (fun _ => ?_) (fun z => absurd (show (1 : Int) ≤ (xs.length : Nat) by omega) z)
    repeat walk_at "mst"
    refine k_iteD' (fun _ => ?_) (fun z => absurd (show ((xs.length : Nat) : Int) ≤ 40 by omega) z)
    repeat walk_at "mst"
    refine ⟨a, xs, rfl, hS, for_enumL (xs := xs) (fun i σ H' => Ex H H' ∧ i ≤ i0 ∧ ∃ x3 x4 : Option V, σ = [some (.ref p), some (.ref a), some pl, x3, x4]) ⟨Evl.Ex.refl _, Nat.zero_le _, _, _, rfl⟩ ?_ ?_ ?_⟩
    · rintro i σ H' _ ⟨e, _⟩; exact Evl.ex_l e hS
    · rintro i y σ H2 T hy ⟨e, ij, x3, x4, rfl⟩ hT
      have hi := (List.getElem?_eq_some_iff.mp hy).1
      have e2 : Ex H2 (upd H2 T (HO.tup [V.int (i : Int), y])) := Evl.Ex.new hT
      have sT : upd H2 T (HO.tup [V.int (i : Int), y]) T = some (HO.tup [V.int (i : Int), y]) := upd_same
      generalize upd H2 T (HO.tup [V.int (i : Int), y]) = H3 at *
      have e3 := e.trans e2
      have hS3 := Evl.ex_l e3 hS
      refine k_gtup (k_st sT) rfl ?_
      repeat walk_at "mst"
      rcases Nat.lt_or_ge i i0 with l | l
      · obtain ⟨r, hr, c1, c2⟩ := good i y l hy
        refine use_check (Or.inl ⟨r, hr.ex e3, c1, c2, ?_⟩)
        repeat walk_at "mst"
        exact ⟨e3, l, _, _, rfl⟩
      · have ei : i = i0 := by omega
        subst ei
        obtain ⟨y', hy', br, r⟩ := bad hi
        rw [hy] at hy'
        injection hy' with hy'
        subst hy'
        exact use_check (Or.inr ⟨br.ex e3, r _ e3⟩)
    · rintro σ H' ⟨e, ij, x3, x4, rfl⟩
      have ei : i0 = xs.length := by omega
      obtain ⟨U, tU⟩ := ty ei
      have hS' := Evl.ex_l e hS
      have hp' := e _ _ hp
      repeat walk_at "mst"
      refine ⟨⟨pl, U, _, _, rfl, TyB.ex tU e⟩, ?_⟩
      rintro v H1 ⟨x', lo, hi, e', rfl, rfl⟩
      cases e'
      repeat walk_at "mst"
      cases hw : wholeV pl 0 ((xs.length : Int) - 1)
      · repeat walk_at "mst"
        exact bp ei hw _ e
      · repeat walk_at "mst"
        refine fun t ht => ?_
        have npt : p ≠ t := ne_of_none hp' ht
        repeat walk_at "mst"
        refine ⟨p, _, dx, [], rfl, (upd_ne npt).trans hp', F.cl, F.nr, by show 0 < 1000; decide, ?_⟩
        repeat walk_at "mst"
        refine ⟨p, _, dx, _, rfl, upd_same, F.cl, F.np, by show 1 < 1000; decide, ?_⟩
        refine gp ei hw t _ (Evl.fresh_back e ht) (fun c o z y => ?_) ?_ upd_same
        · rw [upd_ne y, upd_ne y, upd_ne (ne_of_none (e _ _ z) ht)]; exact e _ _ z
        · rw [upd_ne npt.symm, upd_ne npt.symm, upd_same]
  rcases h with ⟨a, xs, rs, z, rfl, rfl, hS, R, ok, z0, z1, q⟩ | ⟨T, t, n, r⟩ | ⟨a, xs, rfl, hS, l, r⟩ | ⟨a, xs, i, y, rfl, hS, l40, hy, br, good, r⟩ | ⟨a, xs, rs, T, rfl, hS, R, ok, tT, w, r⟩
  · have l := R.1
    have o1 := ok.1
    have o2 := ok.2.1
    refine walk a xs xs.length rfl hS (by omega) (by omega) (Nat.le_refl _) (fun j y hj hy => ?_) (fun h => absurd h (Nat.lt_irrefl _)) (fun _ => ⟨_, .int z⟩) (fun _ h => ?_) (fun _ _ => q)
    · obtain ⟨y', h1, h2⟩ := R.2 j _ (List.getElem?_eq_getElem (by omega))
      rw [hy] at h1
      injection h1 with h1
      subst h1
      rw [l]
      exact ⟨_, h2, ok.2.2 j _ (List.getElem?_eq_getElem (by omega))⟩
    · have e : wholeV (V.int z) 0 ((xs.length : Int) - 1) = true := by
        show (decide (0 ≤ z) && decide (z ≤ (xs.length : Int) - 1)) = true
        rw [decide_eq_true z0, decide_eq_true (by omega)]; rfl
      rw [e] at h
      cases h
  · unfold t_Table_d_init
    repeat walk_at "mst"
    refine ⟨_, T, rfl, t, ?_⟩
    repeat walk_at "mst"
    refine k_NT ?_
    rw [decide_eq_false n]
    repeat walk_at "mst"
    exact r
  · unfold t_Table_d_init
    repeat walk_at "mst"
    refine ⟨_, "list", rfl, .lst hS, ?_⟩
    repeat walk_at "mst"
    refine k_NT ?_
    rw [decide_eq_true rfl]
    repeat walk_at "mst"
    refine k_iteD (fun z => ?_) (fun z => ?_)
    · repeat walk_at "mst"
      refine k_iteD' (fun z2 => ?_) (fun z2 => ?_)
      · omega
      · repeat walk_at "mst"
        exact r
    · repeat walk_at "mst"
      exact r
  · have hi := (List.getElem?_eq_some_iff.mp hy).1
    exact walk a xs i rfl hS (by omega) l40 (by omega) good (fun _ => ⟨y, hy, br, r⟩) (fun h => by omega) (fun h => by omega) (fun h => by omega)
  · have l := R.1
    have o1 := ok.1
    have o2 := ok.2.1
    refine walk a xs xs.length rfl hS (by omega) (by omega) (Nat.le_refl _) (fun j y hj hy => ?_) (fun h => absurd h (Nat.lt_irrefl _)) (fun _ => ⟨_, tT⟩) (fun _ _ => r) (fun _ h => by rw [w] at h; cases h)
    obtain ⟨y', h1, h2⟩ := R.2 j _ (List.getElem?_eq_getElem (by omega))
    rw [hy] at h1
    injection h1 with h1
    subst h1
    rw [l]
    exact ⟨_, h2, ok.2.2 j _ (List.getElem?_eq_getElem (by omega))⟩
/-- a table is made -/
theorem mk_tb {K : PySem.W.Frag} {H : Hp} {Q : Addr → Hp → Prop} {E : XK} {a : Addr} {xs : List V} {rs : List RowG} {z : Int} (hS : SqL K H a xs) (R : RsAt H xs rs) (ok : OkR rs) (z0 : 0 ≤ z) (z1 : z < rs.length) (k : ∀ x H', H x = none → Ex H H' → TbAt K H' x xs (.int z) → Q x H') :
    ∀ x dx, H x = none → H dx = none → dx ≠ x → sp_Table_d_init K (.ref x :: ([.ref a, .int z] ++ [])) (upd (upd H dx (.own x)) x (.ins (He.ga K "Table") dx [])) (fun v H2 => v = .non ∧ Q x H2) E := by
  intro x dx hx hd hne
  have e : Ex H (upd (upd H dx (.own x)) x (.ins (He.ga K "Table") dx [])) := (Evl.Ex.new hd).trans (Evl.Ex.new (by rw [upd_ne hne.symm]; exact hx))
  exact ⟨x, dx, _, _, rfl, upd_same, Or.inl ⟨a, xs, rs, z, rfl, rfl, Evl.ex_l e hS, R.ex e, ok, z0, z1, fun t H' ht kp h1 h2 => ⟨rfl, k x H' hx (fun c o z => kp c o (e _ _ z) (ne_of_none z hx)) ⟨dx, t, h2, h1⟩⟩⟩⟩
/-- the same nested tuples of texts and ints, at most n deep -/
def SameD (K : PySem.W.Frag) (H : Hp) : Nat → V → V → Prop
  | 0, _, _ => False
  | n + 1, x, y => (∃ s, x = .str s ∧ y = .str s ∧ PyData.strOk s = true) ∨ (∃ i, x = .int i ∧ y = .int i) ∨ ∃ a b xs ys, x = .ref a ∧ y = .ref b ∧ H a = some (.tup xs) ∧ H b = some (.tup ys) ∧ xs.length = ys.length ∧ xs.length ≤ 1000 ∧ ∀ (k : Nat) (x' y' : V), xs[k]? = some x' → ys[k]? = some y' → SameD K H n x' y'
def sp_law_same (K : PySem.W.Frag) (n : Nat) : Sp := fun vs H Q _ => ∃ x y, vs = [x, y] ∧ SameD K H n x y ∧ Q (.bl true) H
abbrev N_law_same : List Str := ["told", "due", "k"]
def t_law_same (K : PySem.W.Frag) (n : Nat) (E : XK) : TS := (tSeq (tIfS (tB (tCB (rIsi K) (tCons (tVar 1) (tCons (tC (.ty "tuple")) tNil)))) (tSeq (tIfS (tOr (tNot (tB (tCB (rIsi K) (tCons (tVar 0) (tCons (tC (.ty "tuple")) tNil))))) (tTest (tOp rNe (tCB (rLenQ K) (tCons (tVar 0) tNil)) (tCB (rLenQ K) (tCons (tVar 1) tNil))))) (tRet (tC (.bl false))) tNext) (tSeq (tFor (iRng1 (tCons (tCB (rLenQ K) (tCons (tVar 1) tNil)) tNil)) (gName 2) (tIfS (tNot (tB (tCall (sp_law_same K n) [] E0 (tCons (tOp (rIxT K) (tVar 0) (tVar 2)) (tCons (tOp (rIxT K) (tVar 1) (tVar 2)) tNil))))) (tRet (tC (.bl false))) tNext)) (tRet (tC (.bl true))))) tNext) (tSeq (tIfS (tB (tCB (rIsi K) (tCons (tVar 1) (tCons (tC (.ty "str")) tNil)))) (tRet (tAndV (tCB (rIsi K) (tCons (tVar 0) (tCons (tC (.ty "str")) tNil))) (tOp (rEqD K) (tVar 0) (tVar 1)))) tNext) (tRet (tAndV (tCB (rIsi K) (tCons (tVar 0) (tCons (tC (.ty "int")) tNil))) (tAndV (tNotV (tCB (rIsi K) (tCons (tVar 0) (tCons (tC (.ty "bool")) tNil)))) (tOp (rEqD K) (tVar 0) (tVar 1)))))))
theorem len_law_same {K : PySem.W.Frag} {n : Nat} {vs : List V} {H : Hp} {Q : VK} {E : XK} (h : sp_law_same K n vs H Q E) : vs.length = 2 := by
  obtain ⟨_, _, rfl, _⟩ := h; rfl
theorem no_law_same {K : PySem.W.Frag} {vs : List V} {H : Hp} {Q : VK} {E : XK} : ¬ sp_law_same K 0 vs H Q E := fun ⟨_, _, _, h, _⟩ => h
theorem same_scal {K : PySem.W.Frag} {H : Hp} {Q : VK} {x : V} (h : ∃ d, Dp K H x d ∧ SeqAt.shaped d = true ∧ PyData.eqv d d = true) (q : Q (.bl true) H) : rEqD K x x H Q := by
  obtain ⟨d, h1, h2, h3⟩ := h
  exact ⟨d, d, h1, h1, h2, h2, by rw [h3]; exact q⟩
theorem pure_law_same {K : PySem.W.Frag} (n : Nat) (vs : List V) (H : Hp) (Q : VK) (E : XK) (h : sp_law_same K (n + 1) vs H Q E) : t_law_same K n E { nx := fun _ H' => Q .non H', rt := Q } (start N_law_same vs) H := by
  obtain ⟨x, y, rfl, sd, q⟩ := h
  unfold t_law_same
  rcases sd with ⟨s, rfl, rfl, so⟩ | ⟨i, rfl, rfl⟩ | ⟨a, b, xs, ys, rfl, rfl, hx, hy, l, few, ih⟩
  · repeat walk_at "mst"
    refine k_isi (cls_ty "tuple") (.base (.str s)) (kit_ty (b := "tuple") (r := false) (by decide +kernel)) ?_
    repeat walk_at "mst"
    refine k_isi (cls_ty "str") (.base (.str s)) (kit_ty (b := "str") (r := true) (by decide +kernel)) ?_
    repeat walk_at "mst"
    refine k_isi (cls_ty "str") (.base (.str s)) (kit_ty (b := "str") (r := true) (by decide +kernel)) ?_
    repeat walk_at "mst"
    exact same_scal ⟨.str s, .str s, by unfold SeqAt.shaped; simp [PyData.canLay0, PyData.depth, so], by simp [PyData.eqv]⟩ q
  · repeat walk_at "mst"
    refine k_isi (cls_ty "tuple") (.base (.int i)) (kit_ty (b := "tuple") (r := false) (by decide +kernel)) ?_
    repeat walk_at "mst"
    refine k_isi (cls_ty "str") (.base (.int i)) (kit_ty (b := "str") (r := false) (by decide +kernel)) ?_
    repeat walk_at "mst"
    exact same_scal ⟨.int i, .int i, by unfold SeqAt.shaped; simp [PyData.canLay0, PyData.depth], by simp [PyData.eqv]⟩ q
  · repeat walk_at "mst"
    refine k_isi (cls_ty "tuple") (.base (.tup hy)) (kit_ty (b := "tuple") (r := true) (by decide +kernel)) ?_
    repeat walk_at "mst"
    refine k_isi (cls_ty "tuple") (.base (.tup hx)) (kit_ty (b := "tuple") (r := true) (by decide +kernel)) ?_
    repeat walk_at "mst"
    refine k_iteD (fun z => absurd (by omega) z) (fun _ => ?_)
    repeat walk_at "mst"
    refine ⟨_, rfl, by omega, by omega, ?_⟩
    rw [Int.toNat_natCast]
    refine forK_range (fun i σ H' => H' = H ∧ ∃ x2 : Option V, σ = [some (.ref a), some (.ref b), x2]) ⟨rfl, _, rfl⟩ ?_ ?_
    · rintro i σ H' hi ⟨rfl, x2, rfl⟩
      have h1 := List.getElem?_eq_getElem (l := xs) (i := i) (by omega)
      have h2 := List.getElem?_eq_getElem (l := ys) (i := i) hi
      repeat walk_at "mst"
      refine k_ixT (k_st hx) (atI_nat h1) ?_
      repeat walk_at "mst"
      refine k_ixT (k_st hy) (atI_nat h2) ?_
      repeat walk_at "mst"
      refine ⟨_, _, rfl, ih i _ _ h1 h2, ?_⟩
      repeat walk_at "mst"
      exact ⟨rfl, _, rfl⟩
    · rintro σ H' ⟨rfl, x2, rfl⟩
      repeat walk_at "mst"
      exact q
theorem use_same {K : PySem.W.Frag} {n : Nat} {H : Hp} {Q : VK} {E : XK} {x y : V} (sd : SameD K H n x y) (q : Q (.bl true) H) : sp_law_same K n ([x, y] ++ []) H Q E := ⟨x, y, rfl, sd, q⟩
def sp_Table_m_value (K : PySem.W.Frag) : Sp := fun vs H Q _ => ∃ (b : Addr) (xs : List V) (pl : V), vs = [.ref b] ∧ TbAt K H b xs pl ∧ ∀ p t H', H p = none → Ex H H' → H' p = some (.tup [.str "table", .ref t, pl]) → H' t = some (.tup xs) → Q (.ref p) H'
local macro_rules | `(tactic| walk_at "mlk") => `(tactic| first | exact tfs_rows _ _ | exact tfs_place _ _)
abbrev N_Table_m_value : List Str := ["self"]
def t_Table_m_value (K : PySem.W.Frag) (E : XK) : TS := (tRet (tTup (tCons (tC (.str "table")) (tCons (tFld K (tVar 0) "_rows") (tCons (tFld K (tVar 0) "_place") tNil)))))
theorem len_Table_m_value {K : PySem.W.Frag} {vs : List V} {H : Hp} {Q : VK} {E : XK} (h : sp_Table_m_value K vs H Q E) : vs.length = 1 := by
  obtain ⟨_, _, _, rfl, _⟩ := h; rfl
theorem pure_Table_m_value {K : PySem.W.Frag} (F : FTable K) (vs : List V) (H : Hp) (Q : VK) (E : XK) (h : sp_Table_m_value K vs H Q E) : t_Table_m_value K E { nx := fun _ H' => Q .non H', rt := Q } (start N_Table_m_value vs) H := by
  obtain ⟨b, xs, pl, rfl, ⟨dx, t, hb, ht⟩, q⟩ := h
  unfold t_Table_m_value
  obtain ⟨cl, np, nr⟩ := F
  repeat walk_at "mst"
  exact ⟨fits (Nat.le_of_ble_eq_true rfl), fun p np => q p t _ np (Evl.Ex.new np) upd_same ((Evl.Ex.new np) _ _ ht)⟩
theorem use_tvalue {K : PySem.W.Frag} {H : Hp} {Q : VK} {E : XK} {b : Addr} {xs : List V} {pl : V} (h : TbAt K H b xs pl) (q : ∀ p t H', H p = none → Ex H H' → H' p = some (.tup [.str "table", .ref t, pl]) → H' t = some (.tup xs) → Q (.ref p) H') : sp_Table_m_value K (.ref b :: ([] ++ [])) H Q E := ⟨b, xs, pl, rfl, h, q⟩
def sp_Table_p_moved (K : PySem.W.Frag) : Sp := fun vs H Q _ => ∃ (b : Addr) (xs : List V) (pl z : V), vs = [.ref b, z] ∧ TbAt K H b xs pl ∧ ∀ x H', H x = none → Ex H H' → TbAt K H' x xs z → Q (.ref x) H'
local macro_rules | `(tactic| walk_at "mlk") => `(tactic| first | exact tfs_rows _ _ | exact tfs_place _ _)
local macro_rules | `(tactic| walk_at "new") => `(tactic| ((first | refine ⟨fits (Nat.le_of_ble_eq_true rfl), ?_⟩ | skip); intro p np; generalize hq : upd _ p _ = H1; have e1 := nx np hq; have s1 := nS hq; clear hq))
abbrev N_Table_p_moved : List Str := ["self", "place", "board"]
def t_Table_p_moved (K : PySem.W.Frag) (E : XK) : TS := (tSeq (tAsg (tMake (He.ga K "Table") (sp_Table_d_init K) [] E0 (tCons (tLst (tCons (tTup (tCons (tTup tNil) (tCons (tTup tNil) tNil))) tNil)) (tCons (tC (.int 0)) tNil))) (gName 2)) (tSeq (sFld K (tVar 2) (tFld K (tVar 0) "_rows") "_rows") (tSeq (sFld K (tVar 2) (tVar 1) "_place") (tRet (tVar 2)))))
theorem len_Table_p_moved {K : PySem.W.Frag} {vs : List V} {H : Hp} {Q : VK} {E : XK} (h : sp_Table_p_moved K vs H Q E) : vs.length = 2 := by
  obtain ⟨_, _, _, _, rfl, _⟩ := h; rfl
theorem pure_Table_p_moved {K : PySem.W.Frag} (F : FTable K) (vs : List V) (H : Hp) (Q : VK) (E : XK) (h : sp_Table_p_moved K vs H Q E) : t_Table_p_moved K E { nx := fun _ H' => Q .non H', rt := Q } (start N_Table_p_moved vs) H := by
  obtain ⟨b, xs, pl, z, rfl, ⟨dx, t, hb, ht⟩, q⟩ := h
  unfold t_Table_p_moved
  obtain ⟨cl, np, nr⟩ := F
  repeat walk_at "mst"
  walk_at "new"; rename_i p1 n1 H1 e1 s1
  repeat walk_at "mst"
  walk_at "new"; rename_i p2 n2 H2 e2 s2
  repeat walk_at "mst"
  walk_at "new"; rename_i p3 n3 H3 e3 s3
  repeat walk_at "mst"
  walk_at "new"; rename_i p4 n4 H4 e4 s4
  have e04 := (e1.trans e2).trans (e3.trans e4)
  repeat walk_at "mst"
  have R : RsAt H4 [.ref p3] [([], [])] := ⟨rfl, fun i r h => by
    match i with
    | 0 => cases h; exact ⟨_, rfl, p3, _, _, rfl, e4 _ _ s3, ⟨p1, rfl, e4 _ _ (e3 _ _ (e2 _ _ s1))⟩, ⟨p2, rfl, e4 _ _ (e3 _ _ s2)⟩⟩
    | i + 1 => cases h⟩
  have ok : OkR [([], [])] := ⟨by decide, by decide, fun i r h => by
    match i with
    | 0 => cases h; exact ⟨trivial, trivial⟩
    | i + 1 => cases h⟩
  refine mk_tb (k_sq s4) R ok (by decide) (by decide) fun x H5 nx e5 hT => ?_
  obtain ⟨dx2, t2, hx, _⟩ := hT
  have e05 := e04.trans e5
  have hb5 := e05 _ _ hb
  have nx0 := Evl.fresh_back e04 nx
  repeat walk_at "mst"
  refine ⟨x, _, dx2, _, rfl, hx, cl, nr, by show 2 < 1000; decide, ?_⟩
  have e6 := Evl.Ex.mut (o := HO.ins (He.ga K "Table") dx2 (putF "_rows" (.ref t) (tfs t2 (.int 0)))) e05 nx0
  have s6 : upd H5 x (HO.ins (He.ga K "Table") dx2 (putF "_rows" (.ref t) (tfs t2 (.int 0)))) x = some (HO.ins (He.ga K "Table") dx2 (putF "_rows" (.ref t) (tfs t2 (.int 0)))) := upd_same
  generalize upd H5 x (HO.ins (He.ga K "Table") dx2 (putF "_rows" (.ref t) (tfs t2 (.int 0)))) = H6 at *
  repeat walk_at "mst"
  refine ⟨x, _, dx2, _, rfl, s6, cl, np, Nat.lt_of_le_of_lt (Nat.le_of_ble_eq_true (by rfl) : _ ≤ 5) (by decide), ?_⟩
  rw [tfs_set]
  have e7 := Evl.Ex.mut (o := HO.ins (He.ga K "Table") dx2 (tfs t z)) e6 nx0
  have s7 : upd H6 x (HO.ins (He.ga K "Table") dx2 (tfs t z)) x = some (HO.ins (He.ga K "Table") dx2 (tfs t z)) := upd_same
  generalize upd H6 x (HO.ins (He.ga K "Table") dx2 (tfs t z)) = H7 at *
  repeat walk_at "mst"
  exact q x H7 nx0 e7 ⟨dx2, t, s7, e7 _ _ ht⟩
theorem use_tmoved {K : PySem.W.Frag} {H : Hp} {Q : VK} {E : XK} {b : Addr} {xs : List V} {pl z : V} (h : TbAt K H b xs pl) (q : ∀ x H', H x = none → Ex H H' → TbAt K H' x xs z → Q (.ref x) H') : sp_Table_p_moved K (.ref b :: ([z] ++ [])) H Q E := ⟨b, xs, pl, z, rfl, h, q⟩
def sp_Table_m_moves (K : PySem.W.Frag) : Sp := fun vs H Q _ => ∃ (b : Addr) (s : Str) (xs : List V) (rs : List RowG) (k : Nat) (r : RowG), vs = [.ref b, .str s] ∧ TbAt K H b xs (.int (k : Int)) ∧ RsAt H xs rs ∧ OkR rs ∧ rs[k]? = some r ∧ ∀ p ys H', H p = none → Ex H H' → H' p = some (.lst ys) → TsAt K H' ys xs (sideG s r) → Q (.ref p) H'
local macro_rules | `(tactic| walk_at "mlk") => `(tactic| first | exact tfs_rows _ _ | exact tfs_place _ _)
theorem k_eqStr {H : Hp} {Q : VK} {a b : Str} (q : Q (.bl (decide (a = b))) H) : rEq (.str a) (.str b) H Q := ⟨rfl, by
  have e : decide (V.str a = V.str b) = decide (a = b) := decide_eq_decide.mpr ⟨fun h => V.str.inj h, fun h => by rw [h]⟩
  rw [e]; exact q⟩
/-- one list of places out of a row -/
theorem side_at {H : Hp} {y1 y2 : V} {r : RowG} (g1 : GoAt H y1 r.1) (g2 : GoAt H y2 r.2) (s : Str) : ∃ u, (if s = "left" then y1 else y2) = .ref u ∧ H u = some (.tup ((sideG s r).map V.int)) := by
  obtain ⟨u, e1, h1⟩ := g1
  obtain ⟨v, e2, h2⟩ := g2
  unfold sideG
  by_cases z : s = "left"
  · rw [if_pos z, if_pos z]; exact ⟨u, e1, h1⟩
  · rw [if_neg z, if_neg z]; exact ⟨v, e2, h2⟩
abbrev N_Table_m_moves : List Str := ["self", "side", "lefts", "rights", "places", "place"]
def t_Table_m_moves (K : PySem.W.Frag) (E : XK) : TS := (tSeq (tAsg (tOp (rIxT K) (tFld K (tVar 0) "_rows") (tFld K (tVar 0) "_place")) (gTup K 2 (gCons (gName 2) (gCons (gName 3) gNil)))) (tSeq (tAsg (tIf (tTest (tOp rEq (tVar 1) (tC (.str "left")))) (tVar 2) (tVar 3)) (gName 4)) (tRet (tLc (iTup K (tVar 4)) (gName 5) tYes (tMeth (He.ga K "Table") "_moved" (sp_Table_p_moved K) [] E0 (tVar 0) (tCons (tVar 5) tNil)) [5]))))
theorem len_Table_m_moves {K : PySem.W.Frag} {vs : List V} {H : Hp} {Q : VK} {E : XK} (h : sp_Table_m_moves K vs H Q E) : vs.length = 2 := by
  obtain ⟨_, _, _, _, _, _, rfl, _⟩ := h; rfl
theorem pure_Table_m_moves {K : PySem.W.Frag} (F : FTable K) (vs : List V) (H : Hp) (Q : VK) (E : XK) (h : sp_Table_m_moves K vs H Q E) : t_Table_m_moves K E { nx := fun _ H' => Q .non H', rt := Q } (start N_Table_m_moves vs) H := by
  obtain ⟨b, s, xs, rs, k, r, rfl, hT, R, ok, hk, q⟩ := h
  obtain ⟨dx, t, hb, ht⟩ := id hT
  obtain ⟨y, hy, a, y1, y2, rfl, ha, g1, g2⟩ := R.2 k r hk
  unfold t_Table_m_moves
  obtain ⟨cl, np, nr⟩ := F
  repeat walk_at "mst"
  refine k_ixT (k_st ht) (atI_nat hy) ?_
  refine k_gtup (k_st ha) rfl ?_
  repeat walk_at "mst"
  refine k_eqStr ?_
  repeat walk_at "mst"
  obtain ⟨u, eu, hu⟩ := side_at g1 g2 s
  have fin : ∀ (s4 : Option V), tRet (tLc (iTup K (tVar 4)) (gName 5) tYes (tMeth (He.ga K "Table") "_moved" (sp_Table_p_moved K) [] E0 (tVar 0) (tCons (tVar 5) tNil)) [5]) { nx := fun _ H' => Q .non H', rt := Q } [some (.ref b), some (.str s), some y1, some y2, some (.ref u), s4] H := by
    intro s4
    repeat walk_at "mst"
    refine ⟨u, rfl, ⟨_, k_st hu⟩, lcQ_tup (xs := (sideG s r).map V.int) (fun x y H => ∃ c, y = .ref c ∧ TbAt K H c xs x) ?_ (k_st hu) (fits' (by rw [List.length_map]; have := ok.few hk s; omega)) ?_ ?_⟩
    · rintro x y H H' ⟨c, e, h⟩ kp
      exact ⟨c, e, h.keep kp⟩
    · intro i x hx
      refine turnQ_map fun H' e RR rr => ?_
      repeat walk_at "mst"
      refine ⟨b, dx, _, rfl, e _ _ hb, tfs_no _ _ (by decide +kernel) (by decide +kernel), ?_⟩
      repeat walk_at "mst"
      exact use_tmoved (hT.ex e) fun c H'' nc e2 hc => rr _ _ e2 ⟨c, rfl, hc⟩
    · intro D ys H' hD e hd yl ok2
      refine q D ys H' hD e hd ⟨by rw [yl, List.length_map], fun i z hz => ?_⟩
      obtain ⟨y, h1, c, rfl, h2⟩ := ok2 i (.int z) (by rw [List.getElem?_map, hz]; rfl)
      exact ⟨c, h1, h2⟩
  refine k_iteD (fun z => ?_) (fun z => ?_)
  · rw [if_pos z] at eu
    subst eu
    walk_at "mst"
    walk_at "mst"
    exact fin _
  · rw [if_neg z] at eu
    subst eu
    walk_at "mst"
    walk_at "mst"
    exact fin _
theorem use_tmoves {K : PySem.W.Frag} {H : Hp} {Q : VK} {E : XK} {b : Addr} {s : Str} {xs : List V} {rs : List RowG} {k : Nat} {r : RowG} (h : TbAt K H b xs (.int (k : Int))) (R : RsAt H xs rs) (ok : OkR rs) (hk : rs[k]? = some r) (q : ∀ p ys H', H p = none → Ex H H' → H' p = some (.lst ys) → TsAt K H' ys xs (sideG s r) → Q (.ref p) H') : sp_Table_m_moves K (.ref b :: ([.str s] ++ [])) H Q E := ⟨b, s, xs, rs, k, r, rfl, h, R, ok, hk, q⟩
def sp_law_table_moves (K : PySem.W.Frag) : Sp := fun vs H Q _ => ∃ (u : Addr) (s : Str) (xs : List V) (rs : List RowG) (k : Nat) (r : RowG), vs = [.ref u, .int (k : Int), .str s] ∧ H u = some (.tup xs) ∧ RsAt H xs rs ∧ OkR rs ∧ rs[k]? = some r ∧ ∀ p ys H', H p = none → Ex H H' → H' p = some (.lst ys) → TdAt H' ys u (sideG s r) → Q (.ref p) H'
local macro_rules | `(tactic| walk_at "new") => `(tactic| ((first | refine ⟨fits (Nat.le_of_ble_eq_true rfl), ?_⟩ | skip); intro p np; generalize hq : upd _ p _ = H1; have e1 := nx np hq; have s1 := nS hq; clear hq))
abbrev N_law_table_moves : List Str := ["rows", "place", "side", "goal"]
def t_law_table_moves (K : PySem.W.Frag) (E : XK) : TS := (tRet (tLc (iTup K (tOp (rIxT K) (tOp (rIxT K) (tVar 0) (tVar 1)) (tIf (tTest (tOp rEq (tVar 2) (tC (.str "left")))) (tC (.int 0)) (tC (.int 1))))) (gName 3) tYes (tTup (tCons (tC (.str "table")) (tCons (tVar 0) (tCons (tVar 3) tNil)))) [3]))
theorem len_law_table_moves {K : PySem.W.Frag} {vs : List V} {H : Hp} {Q : VK} {E : XK} (h : sp_law_table_moves K vs H Q E) : vs.length = 3 := by
  obtain ⟨_, _, _, _, _, _, rfl, _⟩ := h; rfl
theorem pure_law_table_moves {K : PySem.W.Frag} (vs : List V) (H : Hp) (Q : VK) (E : XK) (h : sp_law_table_moves K vs H Q E) : t_law_table_moves K E { nx := fun _ H' => Q .non H', rt := Q } (start N_law_table_moves vs) H := by
  obtain ⟨t, s, xs, rs, k, r, rfl, ht, R, ok, hk, q⟩ := h
  obtain ⟨y, hy, a, y1, y2, rfl, ha, g1, g2⟩ := R.2 k r hk
  unfold t_law_table_moves
  repeat walk_at "mst"
  refine k_ixT (k_st ht) (atI_nat hy) ?_
  repeat walk_at "mst"
  refine k_eqStr ?_
  repeat walk_at "mst"
  obtain ⟨u, eu, hu⟩ := side_at g1 g2 s
  have fin : lcR (gName 3) tYes (tTup (tCons (tC (.str "table")) (tCons (tVar 0) (tCons (tVar 3) tNil)))) [3] (start N_law_table_moves [.ref t, .int (k : Int), .str s]) Q (Itt K u) H := by
    refine lcQ_tup (xs := (sideG s r).map V.int) (fun x y H => ∃ c, y = .ref c ∧ H c = some (.tup [.str "table", .ref t, x])) ?_ (k_st hu) (fits' (by rw [List.length_map]; have := ok.few hk s; omega)) ?_ ?_
    · rintro x y H H' ⟨c, e, h⟩ kp
      exact ⟨c, e, kp _ _ h (fun _ z => by cases z)⟩
    · intro i x hx
      refine turnQ_map fun H' e RR rr => ?_
      repeat walk_at "mst"
      walk_at "new"; rename_i c nc H2 e2 s2
      exact rr _ _ e2 ⟨c, rfl, s2⟩
    · intro D ys H' hD e hd yl ok2
      refine q D ys H' hD e hd ⟨by rw [yl, List.length_map], fun i z hz => ?_⟩
      obtain ⟨y, h1, c, rfl, h2⟩ := ok2 i (.int z) (by rw [List.getElem?_map, hz]; rfl)
      exact ⟨c, h1, h2⟩
  refine k_iteD (fun z => ?_) (fun z => ?_)
  · rw [if_pos z] at eu
    subst eu
    repeat walk_at "mst"
    exact ⟨u, rfl, ⟨_, k_st hu⟩, fin⟩
  · rw [if_neg z] at eu
    subst eu
    repeat walk_at "mst"
    exact ⟨u, rfl, ⟨_, k_st hu⟩, fin⟩
theorem use_tdues {K : PySem.W.Frag} {H : Hp} {Q : VK} {E : XK} {u : Addr} {s : Str} {xs : List V} {rs : List RowG} {k : Nat} {r : RowG} (h : H u = some (.tup xs)) (R : RsAt H xs rs) (ok : OkR rs) (hk : rs[k]? = some r) (q : ∀ p ys H', H p = none → Ex H H' → H' p = some (.lst ys) → TdAt H' ys u (sideG s r) → Q (.ref p) H') : sp_law_table_moves K ([.ref u, .int (k : Int), .str s] ++ []) H Q E := ⟨u, s, xs, rs, k, r, rfl, h, R, ok, hk, q⟩
def sp_law_told (K : PySem.W.Frag) : Sp := fun vs H Q _ => ∃ (p d u : Addr) (ys ds xs : List V) (rs : List RowG) (g : List Int), vs = [.ref p, .ref d] ∧ H p = some (.lst ys) ∧ SqL K H d ds ∧ TsAt K H ys xs g ∧ TdAt H ds u g ∧ H u = some (.tup xs) ∧ RsAt H xs rs ∧ OkR rs ∧ g.length ≤ 40 ∧ ∀ H', (∀ c o, H c = some o → c ≠ p → H' c = some o) → Q (.bl true) H'
theorem go_same {K : PySem.W.Frag} {H : Hp} {n : Nat} {y : V} {g : List Int} (h : GoAt H y g) (l : g.length ≤ 1000) : SameD K H (n + 2) y y := by
  obtain ⟨u, rfl, hu⟩ := h
  refine Or.inr (Or.inr ⟨u, u, _, _, rfl, rfl, hu, hu, rfl, by rw [List.length_map]; exact l, fun k x y hx hy => ?_⟩)
  rw [hx] at hy
  injection hy with hy
  subst hy
  obtain ⟨z, hz, rfl⟩ := get_int hx
  exact Or.inr (Or.inl ⟨z, rfl, rfl⟩)
theorem ro_same {K : PySem.W.Frag} {H : Hp} {n : Nat} {y : V} {r : RowG} (h : RoAt H y r) (l : r.1.length ≤ 40 ∧ r.2.length ≤ 40) : SameD K H (n + 3) y y := by
  obtain ⟨a, y1, y2, rfl, ha, g1, g2⟩ := h
  refine Or.inr (Or.inr ⟨a, a, _, _, rfl, rfl, ha, ha, rfl, by show 2 ≤ 1000; decide, fun k x y hx hy => ?_⟩)
  rw [hx] at hy
  injection hy with hy
  subst hy
  match k with
  | 0 => cases hx; exact go_same g1 (by omega)
  | 1 => cases hx; exact go_same g2 (by omega)
  | k + 2 => cases hx
theorem tb_same {K : PySem.W.Frag} {H : Hp} {p q t u : Addr} {xs : List V} {rs : List RowG} {z : Int} (h1 : H p = some (.tup [.str "table", .ref t, .int z])) (h2 : H t = some (.tup xs)) (h3 : H q = some (.tup [.str "table", .ref u, .int z])) (h4 : H u = some (.tup xs)) (R : RsAt H xs rs) (ok : OkR rs) : SameD K H 6 (.ref p) (.ref q) := by
  refine Or.inr (Or.inr ⟨p, q, _, _, rfl, rfl, h1, h3, rfl, by show 3 ≤ 1000; decide, fun k x y hx hy => ?_⟩)
  match k with
  | 0 =>
    cases hx; cases hy
    exact Or.inl ⟨_, rfl, rfl, by decide +kernel⟩
  | 1 =>
    cases hx; cases hy
    refine Or.inr (Or.inr ⟨t, u, _, _, rfl, rfl, h2, h4, rfl, by have := R.1; have := ok.2.1; omega, fun k x y hx hy => ?_⟩)
    rw [hx] at hy
    injection hy with hy
    subst hy
    have hk := (List.getElem?_eq_some_iff.mp hx).1
    have hr := List.getElem?_eq_getElem (l := rs) (i := k) (by have := R.1; omega)
    obtain ⟨y, hy, ro⟩ := R.2 k _ hr
    rw [hx] at hy
    injection hy with hy
    subst hy
    exact ro_same ro (ok.few2 hr)
  | 2 =>
    cases hx; cases hy
    exact Or.inr (Or.inl ⟨z, rfl, rfl⟩)
  | k + 3 => cases hx
abbrev N_law_told : List Str := ["boards", "dues", "k"]
def t_law_told (K : PySem.W.Frag) (E : XK) : TS := (tSeq (tIfS (tOr (tNot (tB (tCB (rIsi K) (tCons (tVar 0) (tCons (tC (.ty "list")) tNil))))) (tTest (tOp rNe (tCB (rLenQ K) (tCons (tVar 0) tNil)) (tCB (rLenQ K) (tCons (tVar 1) tNil))))) (tRet (tC (.bl false))) tNext) (tSeq (tFor (iRng1 (tCons (tCB (rLenQ K) (tCons (tVar 1) tNil)) tNil)) (gName 2) (tIfS (tOr (tNot (tB (tCB (rIsC (He.ga K "Table")) (tCons (tOp (rIxL K) (tVar 0) (tVar 2)) (tCons (tC (.ref (He.ga K "Table"))) tNil))))) (tNot (tB (tCall (sp_law_same K 6) [] E0 (tCons (tMeth (He.ga K "Table") "value" (sp_Table_m_value K) [] E0 (tOp (rIxL K) (tVar 0) (tVar 2)) tNil) (tCons (tOp (rIxL K) (tVar 1) (tVar 2)) tNil)))))) (tRet (tC (.bl false))) tNext)) (tSeq (tDrop (tBM0 K "list" rReverse (tVar 0))) (tSeq (tDrop (tBM K "list" rAppend (tVar 0) (tCons (tC .non) tNil))) (tRet (tC (.bl true)))))))
theorem len_law_told {K : PySem.W.Frag} {vs : List V} {H : Hp} {Q : VK} {E : XK} (h : sp_law_told K vs H Q E) : vs.length = 2 := by
  obtain ⟨_, _, _, _, _, _, _, _, rfl, _⟩ := h; rfl
theorem pure_law_told {K : PySem.W.Frag} (vs : List V) (H : Hp) (Q : VK) (E : XK) (h : sp_law_told K vs H Q E) : t_law_told K E { nx := fun _ H' => Q .non H', rt := Q } (start N_law_told vs) H := by
  obtain ⟨p, d, u, ys, ds, xs, rs, g, rfl, hp, hd, bs, dd, hu, R, ok, few, q⟩ := h
  unfold t_law_told
  have xl : ys.length = g.length := bs.1
  have yl : ds.length = g.length := dd.1
  repeat walk_at "mst"
  refine k_isi (cls_ty "list") (.base (.lst hp)) (kit_ty (b := "list") (r := true) (by decide +kernel)) ?_
  repeat walk_at "mst"
  refine k_iteD (fun z => absurd (by omega) z) (fun _ => ?_)
  repeat walk_at "mst"
  refine ⟨_, rfl, by omega, by omega, ?_⟩
  rw [Int.toNat_natCast]
  refine forK_range (fun i σ H' => Ex H H' ∧ ∃ x2 : Option V, σ = [some (.ref p), some (.ref d), x2]) ⟨Evl.Ex.refl _, _, rfl⟩ ?_ ?_
  · rintro i σ H' hi ⟨e, x2, rfl⟩
    have hz := List.getElem?_eq_getElem (l := g) (i := i) (by omega)
    obtain ⟨b, hb, hB⟩ := bs.2 i _ hz
    obtain ⟨w, hw, hW⟩ := dd.2 i _ hz
    generalize g[i] = z at *
    have hB' := hB.ex e
    obtain ⟨dx, t, hB1, hB2⟩ := id hB'
    have hp' := e _ _ hp
    have hd' := Evl.ex_l e hd
    repeat walk_at "mst"
    refine k_ixL (k_sq hp') (atI_nat hb) ?_
    repeat walk_at "mst"
    refine k_rIsC hB1 ?_
    repeat walk_at "mst"
    refine k_ixL (k_sq hp') (atI_nat hb) ?_
    repeat walk_at "mst"
    refine ⟨b, dx, _, rfl, hB1, tfs_no _ _ (by decide +kernel) (by decide +kernel), ?_⟩
    repeat walk_at "mst"
    refine use_tvalue hB' fun v tt H2 nv e2 hv htt => ?_
    have hd2 := Evl.ex_l e2 hd'
    have e02 := e.trans e2
    repeat walk_at "mst"
    refine k_ixL hd2 (atI_nat hw) ?_
    repeat walk_at "mst"
    refine use_same (tb_same hv htt (e02 _ _ hW) (e02 _ _ hu) (R.ex e02) ok) ?_
    repeat walk_at "mst"
    exact ⟨e02, _, rfl⟩
  · rintro σ H' ⟨e, x2, rfl⟩
    have hp' := e _ _ hp
    repeat walk_at "mst"
    refine ⟨p, _, rfl, rfl, hp', ?_⟩
    have k1 : ∀ c o, H c = some o → c ≠ p → upd H' p (HO.lst ys.reverse) c = some o := fun c o z y => (upd_ne y).trans (e _ _ z)
    have s1 : upd H' p (HO.lst ys.reverse) p = some (HO.lst ys.reverse) := upd_same
    generalize upd H' p (HO.lst ys.reverse) = H1 at *
    repeat walk_at "mst"
    · rw [List.length_reverse]; exact fits' (by omega)
    exact q _ fun c o z y => (upd_ne y).trans (k1 c o z y)
theorem use_ttold {K : PySem.W.Frag} {H : Hp} {Q : VK} {E : XK} {p d u : Addr} {ys ds xs : List V} {rs : List RowG} {g : List Int} (hp : H p = some (.lst ys)) (hd : SqL K H d ds) (bs : TsAt K H ys xs g) (dd : TdAt H ds u g) (hu : H u = some (.tup xs)) (R : RsAt H xs rs) (ok : OkR rs) (few : g.length ≤ 40) (q : ∀ H', (∀ c o, H c = some o → c ≠ p → H' c = some o) → Q (.bl true) H') : sp_law_told K ([.ref p, .ref d] ++ []) H Q E := ⟨p, d, u, ys, ds, xs, rs, g, rfl, hp, hd, bs, dd, hu, R, ok, few, q⟩
def sp_Table_m_parts (K : PySem.W.Frag) : Sp := fun vs H Q _ => ∃ (b : Addr) (xs : List V) (rs : List RowG) (k : Nat) (r : RowG), vs = [.ref b] ∧ TbAt K H b xs (.int (k : Int)) ∧ RsAt H xs rs ∧ rs[k]? = some r ∧ ∀ p H', H p = none → Ex H H' → H' p = some (.lst (if r = ([], []) then [] else [.ref b])) → Q (.ref p) H'
local macro_rules | `(tactic| walk_at "mlk") => `(tactic| first | exact tfs_rows _ _ | exact tfs_place _ _)
local macro_rules | `(tactic| walk_at "new") => `(tactic| ((first | refine ⟨fits (Nat.le_of_ble_eq_true rfl), ?_⟩ | skip); intro p np; generalize hq : upd _ p _ = H1; have e1 := nx np hq; have s1 := nS hq; clear hq))
abbrev N_Table_m_parts : List Str := ["self"]
def t_Table_m_parts (K : PySem.W.Frag) (E : XK) : TS := (tRet (tIf (tTest (tOp (rNeD K) (tOp (rIxT K) (tFld K (tVar 0) "_rows") (tFld K (tVar 0) "_place")) (tTup (tCons (tTup tNil) (tCons (tTup tNil) tNil))))) (tLst (tCons (tVar 0) tNil)) (tLst tNil)))
theorem len_Table_m_parts {K : PySem.W.Frag} {vs : List V} {H : Hp} {Q : VK} {E : XK} (h : sp_Table_m_parts K vs H Q E) : vs.length = 1 := by
  obtain ⟨_, _, _, _, _, rfl, _⟩ := h; rfl
theorem k_neRow {K : PySem.W.Frag} {H : Hp} {Q : VK} {x y : V} {g h : RowG} (f1 : RoAt H x g) (f2 : RoAt H y h) (q : Q (.bl (!decide (g = h))) H) : rNeD K x y H Q :=
  ⟨rowD g, rowD h, f1.dp, f2.dp, shaped_row g, shaped_row h, by rw [eqv_row]; exact q⟩
theorem pure_Table_m_parts {K : PySem.W.Frag} (F : FTable K) (vs : List V) (H : Hp) (Q : VK) (E : XK) (h : sp_Table_m_parts K vs H Q E) : t_Table_m_parts K E { nx := fun _ H' => Q .non H', rt := Q } (start N_Table_m_parts vs) H := by
  obtain ⟨b, xs, rs, k, r, rfl, hT, R, hk, q⟩ := h
  obtain ⟨dx, t, hb, ht⟩ := id hT
  obtain ⟨y, hy, ro⟩ := R.2 k r hk
  unfold t_Table_m_parts
  obtain ⟨cl, np, nr⟩ := F
  repeat walk_at "mst"
  refine k_ixT (k_st ht) (atI_nat hy) ?_
  repeat walk_at "mst"
  walk_at "new"; rename_i p1 n1 H1 e1 s1
  repeat walk_at "mst"
  walk_at "new"; rename_i p2 n2 H2 e2 s2
  repeat walk_at "mst"
  walk_at "new"; rename_i p3 n3 H3 e3 s3
  repeat walk_at "mst"
  have e03 := (e1.trans e2).trans e3
  refine k_neRow (h := ([], [])) (ro.ex e03) ⟨p3, _, _, rfl, s3, ⟨p1, rfl, e3 _ _ (e2 _ _ s1)⟩, ⟨p2, rfl, e3 _ _ s2⟩⟩ ?_
  repeat walk_at "mst"
  by_cases z : r = ([], [])
  · rw [if_pos z] at q
    rw [decide_eq_true z]
    repeat walk_at "mst"
    walk_at "new"; rename_i p4 n4 H4 e4 s4
    exact q _ _ (Evl.fresh_back e03 n4) (e03.trans e4) s4
  · rw [if_neg z] at q
    rw [decide_eq_false z]
    repeat walk_at "mst"
    walk_at "new"; rename_i p4 n4 H4 e4 s4
    exact q _ _ (Evl.fresh_back e03 n4) (e03.trans e4) s4
theorem use_tparts {K : PySem.W.Frag} {H : Hp} {Q : VK} {E : XK} {b : Addr} {xs : List V} {rs : List RowG} {k : Nat} {r : RowG} (h : TbAt K H b xs (.int (k : Int))) (R : RsAt H xs rs) (hk : rs[k]? = some r) (q : ∀ p H', H p = none → Ex H H' → H' p = some (.lst (if r = ([], []) then [] else [.ref b])) → Q (.ref p) H') : sp_Table_m_parts K (.ref b :: ([] ++ [])) H Q E := ⟨b, xs, rs, k, r, rfl, h, R, hk, q⟩
def sp_law_asked (K : PySem.W.Frag) : Sp := fun vs H Q _ => ∃ (b u : Addr) (xs : List V) (rs : List RowG) (k : Nat), vs = [.ref b, .ref u, .int (k : Int)] ∧ TbAt K H b xs (.int (k : Int)) ∧ H u = some (.tup xs) ∧ RsAt H xs rs ∧ OkR rs ∧ k < rs.length ∧ ∀ H', Ex H H' → Q (.bl true) H'
local macro_rules | `(tactic| walk_at "new") => `(tactic| ((first | refine ⟨fits (Nat.le_of_ble_eq_true rfl), ?_⟩ | skip); intro p np; generalize hq : upd _ p _ = H1; have e1 := nx np hq; have s1 := nS hq; clear hq))
abbrev N_law_asked : List Str := ["board", "rows", "place", "dues", "own"]
def t_law_asked (K : PySem.W.Frag) (E : XK) : TS := (tSeq (tIfS (tNot (tB (tCall (sp_law_same K 6) [] E0 (tCons (tMeth (He.ga K "Table") "value" (sp_Table_m_value K) [] E0 (tVar 0) tNil) (tCons (tTup (tCons (tC (.str "table")) (tCons (tVar 1) (tCons (tVar 2) tNil)))) tNil))))) (tRet (tC (.bl false))) tNext) (tSeq (tAsg (tLst (tCons (tCall (sp_law_table_moves K) [] E0 (tCons (tVar 1) (tCons (tVar 2) (tCons (tC (.str "left")) tNil)))) (tCons (tCall (sp_law_table_moves K) [] E0 (tCons (tVar 1) (tCons (tVar 2) (tCons (tC (.str "right")) tNil)))) tNil))) (gName 3)) (tSeq (tIfS (tOr (tNot (tB (tCall (sp_law_told K) [] E0 (tCons (tMeth (He.ga K "Table") "moves" (sp_Table_m_moves K) [] E0 (tVar 0) (tCons (tC (.str "left")) tNil)) (tCons (tOp (rIxL K) (tVar 3) (tC (.int 0))) tNil))))) (tNot (tB (tCall (sp_law_told K) [] E0 (tCons (tMeth (He.ga K "Table") "moves" (sp_Table_m_moves K) [] E0 (tVar 0) (tCons (tC (.str "right")) tNil)) (tCons (tOp (rIxL K) (tVar 3) (tC (.int 1))) tNil)))))) (tRet (tC (.bl false))) tNext) (tSeq (tAsg (tLst (tCons (tTup (tCons (tC (.str "table")) (tCons (tVar 1) (tCons (tVar 2) tNil)))) tNil)) (gName 4)) (tRet (tCall (sp_law_told K) [] E0 (tCons (tMeth (He.ga K "Table") "parts" (sp_Table_m_parts K) [] E0 (tVar 0) tNil) (tCons (tSl (rSlL K) (tVar 4) tNoPart (tPart (tOp rAddI (tCB (rLenQ K) (tCons (tOp (rIxL K) (tVar 3) (tC (.int 0))) tNil)) (tCB (rLenQ K) (tCons (tOp (rIxL K) (tVar 3) (tC (.int 1))) tNil))))) tNil))))))))
theorem len_law_asked {K : PySem.W.Frag} {vs : List V} {H : Hp} {Q : VK} {E : XK} (h : sp_law_asked K vs H Q E) : vs.length = 3 := by
  obtain ⟨_, _, _, _, _, rfl, _⟩ := h; rfl
theorem pure_law_asked {K : PySem.W.Frag} (vs : List V) (H : Hp) (Q : VK) (E : XK) (h : sp_law_asked K vs H Q E) : t_law_asked K E { nx := fun _ H' => Q .non H', rt := Q } (start N_law_asked vs) H := by
  obtain ⟨b, u, xs, rs, k, rfl, hB, hu, R, ok, kl, q⟩ := h
  have hr := List.getElem?_eq_getElem (l := rs) (i := k) kl
  obtain ⟨dx, t, hB1, hB2⟩ := id hB
  generalize rs[k] = r at *
  unfold t_law_asked
  repeat walk_at "mst"
  refine ⟨b, dx, _, rfl, hB1, tfs_no _ _ (by decide +kernel) (by decide +kernel), ?_⟩
  repeat walk_at "mst"
  refine use_tvalue hB fun v tt H2 nv e2 hv htt => ?_
  repeat walk_at "mst"
  walk_at "new"; rename_i d1 nd1 H3 e3 s3
  have e03 := e2.trans e3
  repeat walk_at "mst"
  refine use_same (tb_same (e3 _ _ hv) (e3 _ _ htt) s3 (e03 _ _ hu) (R.ex e03) ok) ?_
  repeat walk_at "mst"
  refine use_tdues (e03 _ _ hu) (R.ex e03) ok hr fun p1 ys1 H4 np1 e4 h1 d1s => ?_
  have e04 := e03.trans e4
  repeat walk_at "mst"
  refine use_tdues (e04 _ _ hu) (R.ex e04) ok hr fun p2 ys2 H5 np2 e5 h2 d2s => ?_
  have e05 := e04.trans e5
  repeat walk_at "mst"
  walk_at "new"; rename_i pd npd H6 e6 s6
  have e06 := e05.trans e6
  have h1' := e6 _ _ (e5 _ _ h1)
  have h2' := e6 _ _ h2
  have d1' := d1s.ex (e5.trans e6)
  have d2' := d2s.ex e6
  have f1 := ok.few hr "left"
  have f2 := ok.few hr "right"
  have hB6 := hB.ex e06
  have hu6 := e06 _ _ hu
  have R6 := R.ex e06
  have hB16 := e06 _ _ hB1
  clear hv htt s3 h1 h2 d1s d2s e2 e3 e4 e5 e6
  repeat walk_at "mst"
  refine ⟨b, dx, _, rfl, hB16, tfs_no _ _ (by decide +kernel) (by decide +kernel), ?_⟩
  repeat walk_at "mst"
  refine use_tmoves hB6 R6 ok hr fun m1 bs1 H7 nm1 e7 hm1 t1 => ?_
  repeat walk_at "mst"
  refine k_ixL (k_sq (e7 _ _ s6)) rfl ?_
  repeat walk_at "mst"
  refine use_ttold hm1 (k_sq (e7 _ _ h1')) t1 (d1'.ex e7) (e7 _ _ hu6) (R6.ex e7) ok f1 fun H8 k8 => ?_
  have e8 : Ex H6 H8 := fun c o z => k8 c o (e7 _ _ z) (ne_of_none z nm1)
  have hB18 := e8 _ _ hB16
  repeat walk_at "mst"
  refine ⟨b, dx, _, rfl, hB18, tfs_no _ _ (by decide +kernel) (by decide +kernel), ?_⟩
  repeat walk_at "mst"
  refine use_tmoves (hB6.ex e8) (R6.ex e8) ok hr fun m2 bs2 H9 nm2 e9 hm2 t2 => ?_
  have e69 := e8.trans e9
  repeat walk_at "mst"
  refine k_ixL (k_sq (e69 _ _ s6)) rfl ?_
  repeat walk_at "mst"
  refine use_ttold hm2 (k_sq (e69 _ _ h2')) t2 (d2'.ex e69) (e69 _ _ hu6) (R6.ex e69) ok f2 fun HA kA => ?_
  have eA : Ex H6 HA := fun c o z => kA c o (e69 _ _ z) (ne_of_none (e8 _ _ z) nm2)
  have hB1A := eA _ _ hB16
  repeat walk_at "mst"
  walk_at "new"; rename_i d3 nd3 HB eB sB
  repeat walk_at "mst"
  walk_at "new"; rename_i op nop HC eC sC
  have e6C := eA.trans (eB.trans eC)
  have hB1C := e6C _ _ hB16
  repeat walk_at "mst"
  refine ⟨b, dx, _, rfl, hB1C, tfs_no _ _ (by decide +kernel) (by decide +kernel), ?_⟩
  repeat walk_at "mst"
  refine use_tparts (hB6.ex e6C) (R6.ex e6C) hr fun pp HD npp eD hpp => ?_
  have e6D := e6C.trans eD
  repeat walk_at "mst"
  refine k_ixL (k_sq (e6D _ _ s6)) rfl ?_
  have h1D := e6D _ _ h1'
  have h2D := e6D _ _ h2'
  repeat walk_at "mst"
  refine k_ixL (k_sq (e6D _ _ s6)) rfl ?_
  repeat walk_at "mst"
  refine n_sl (k_sq (eD _ _ sC)) fun sl HE nsl eE hsl => ?_
  rw [show ((ys1.length : Nat) : Int) + ((ys2.length : Nat) : Int) = ((ys1.length + ys2.length : Nat) : Int) by omega, cut_min] at hsl
  have l1 := d1'.1
  have l2 := d2'.1
  have e6E := e6D.trans eE
  have tb : TbAt K HE b xs (.int (k : Int)) := hB6.ex e6E
  have td : HE d3 = some (.tup [.str "table", .ref u, .int (k : Int)]) := eE _ _ (eD _ _ (eC _ _ sB))
  repeat walk_at "mst"
  have done : ∀ H', (∀ c o, HE c = some o → c ≠ pp → H' c = some o) → Q (.bl true) H' := fun H' kk => q H' fun c o z => kk c o (e6E _ _ (e06 _ _ z)) (ne_of_none (e6C _ _ (e06 _ _ z)) npp)
  by_cases z : r = ([], [])
  · subst z
    rw [if_pos rfl] at hpp
    have z1 : ys1.length = 0 := l1
    have z2 : ys2.length = 0 := l2
    rw [z1, z2] at hsl
    exact use_ttold (g := []) (eE _ _ hpp) (k_sq hsl) ⟨rfl, fun i z h => by simp at h⟩ ⟨rfl, fun i z h => by simp at h⟩ (e6E _ _ hu6) (R6.ex e6E) ok (by decide) done
  · rw [if_neg z] at hpp
    have pos : 1 ≤ ys1.length + ys2.length := by
      obtain ⟨a1, a2⟩ := r
      have z1 : ys1.length = a1.length := l1
      have z2 : ys2.length = a2.length := l2
      match a1, a2 with
      | [], [] => exact absurd rfl z
      | _ :: _, _ => rw [List.length_cons] at z1; omega
      | [], _ :: _ => rw [List.length_cons] at z2; omega
    rw [List.take_of_length_le (show [V.ref d3].length ≤ _ from pos)] at hsl
    refine use_ttold (g := [(k : Int)]) (eE _ _ hpp) (k_sq hsl) ⟨rfl, fun i z h => ?_⟩ ⟨rfl, fun i z h => ?_⟩ (e6E _ _ hu6) (R6.ex e6E) ok (by show 1 ≤ 40; decide) done
    · match i with
      | 0 => cases h; exact ⟨b, rfl, tb⟩
      | i + 1 => cases h
    · match i with
      | 0 => cases h; exact ⟨d3, rfl, td⟩
      | i + 1 => cases h
theorem use_tasked {K : PySem.W.Frag} {H : Hp} {Q : VK} {E : XK} {b u : Addr} {xs : List V} {rs : List RowG} {k : Nat} (hB : TbAt K H b xs (.int (k : Int))) (hu : H u = some (.tup xs)) (R : RsAt H xs rs) (ok : OkR rs) (kl : k < rs.length) (q : ∀ H', Ex H H' → Q (.bl true) H') : sp_law_asked K ([.ref b, .ref u, .int (k : Int)] ++ []) H Q E := ⟨b, u, xs, rs, k, rfl, hB, hu, R, ok, kl, q⟩
def sp_law_bad_rows (K : PySem.W.Frag) : Sp := fun vs H Q _ => ∃ (sp : Addr) (xs : List V) (rs : List RowG) (k : Nat) (far : Int), vs = [.ref sp, .int (k : Int), .int far] ∧ H sp = some (.lst xs) ∧ RsAt H xs rs ∧ OkR rs ∧ k < rs.length ∧ 0 ≤ far ∧ ∀ p ys H', H p = none → Ex H H' → H' p = some (.lst ys) → ys.length ≤ 100 → (∀ y ∈ ys, BadR K H' wholeV (k : Int) rs.length y) → Q (.ref p) H'
local macro_rules | `(tactic| walk_at "new") => `(tactic| ((first | refine ⟨fits (Nat.le_of_ble_eq_true rfl), ?_⟩ | skip); intro p np; generalize hq : upd _ p _ = H1; have e1 := nx np hq; have s1 := nS hq; clear hq))
local macro_rules | `(tactic| walk_at "mex") => `(tactic| first | assumption | exact Evl.Ex.refl _ | (refine Evl.Ex.trans (H1 := ?_) ?_ ?_; rotate_left; (focus assumption); walk_at "mex"))
theorem wh_lo {i lo hi : Int} (h : i < lo) : wholeV (.int i) lo hi = false := by
  show (decide (lo ≤ i) && decide (i ≤ hi)) = false
  rw [decide_eq_false (p := lo ≤ i) (by omega), Bool.false_and]
theorem wh_hi {i lo hi : Int} (h : hi < i) : wholeV (.int i) lo hi = false := by
  show (decide (lo ≤ i) && decide (i ≤ hi)) = false
  rw [decide_eq_false (p := i ≤ hi) (by omega), Bool.and_false]
theorem wh_in {i lo hi : Int} (h : lo ≤ i) (h2 : i ≤ hi) : wholeV (.int i) lo hi = true := by
  show (decide (lo ≤ i) && decide (i ≤ hi)) = true
  rw [decide_eq_true h, decide_eq_true h2]; rfl
abbrev N_law_bad_rows : List Str := ["rows", "at", "far", "many", "row", "bads"]
def t_law_bad_rows (K : PySem.W.Frag) (E : XK) : TS := (tSeq (tAsg (tCB (rLenQ K) (tCons (tVar 0) tNil)) (gName 3)) (tSeq (tAsg (tOp (rIxL K) (tVar 0) (tVar 1)) (gName 4)) (tSeq (tAsg (tLst (tCons (tTup (tCons (tTup (tCons (tVar 1) tNil)) (tCons (tTup tNil) tNil))) (tCons (tTup (tCons (tTup tNil) (tCons (tTup (tCons (tVar 1) tNil)) tNil))) (tCons (tTup (tCons (tTup (tCons (tVar 3) tNil)) (tCons (tTup tNil) tNil))) (tCons (tTup (tCons (tTup tNil) (tCons (tTup (tCons (tOp rAddI (tVar 3) (tVar 2)) tNil)) tNil))) (tCons (tTup (tCons (tTup (tCons (tOp rSubI (tUn rNegI (tC (.int 1))) (tVar 2)) tNil)) (tCons (tTup tNil) tNil))) (tCons (tTup (tCons (tLst tNil) (tCons (tTup tNil) tNil))) (tCons (tTup (tCons (tTup tNil) (tCons (tLst tNil) tNil))) (tCons (tTup (tCons (tTup tNil) tNil)) tNil))))))))) (gName 5)) (tSeq (tAsg (tOp rCat (tVar 5) (tLst (tCons (tTup (tCons (tTup tNil) (tCons (tTup tNil) (tCons (tTup tNil) tNil)))) (tCons (tLst (tCons (tTup tNil) (tCons (tTup tNil) tNil))) (tCons (tC .non) (tCons (tC (.bl true)) (tCons (tTup tNil) (tCons (tTup (tCons (tTup (tCons (tC .non) tNil)) (tCons (tTup tNil) tNil))) (tCons (tTup (tCons (tTup tNil) (tCons (tTup (tCons (tC (.str "1")) tNil)) tNil))) (tCons (tTup (tCons (tOp (rIxT K) (tVar 4) (tC (.int 0))) (tCons (tC .non) tNil))) (tCons (tTup (tCons (tOp (rIxT K) (tVar 4) (tC (.int 0))) (tCons (tC (.int 1)) tNil))) (tCons (tC (.str "ab")) tNil)))))))))))) (gName 5)) (Evl.tCut (tIfS (tTest (tOp rLtI (tVar 1) (tOp rSubI (tVar 3) (tC (.int 1))))) (tAsg (tOp rCat (tVar 5) (tLst (tCons (tTup (tCons (tTup (tCons (tOp rSubI (tVar 3) (tC (.int 1))) (tCons (tOp rSubI (tVar 3) (tC (.int 1))) tNil))) (tCons (tOp (rIxT K) (tVar 4) (tC (.int 1))) tNil))) (tCons (tTup (tCons (tOp (rIxT K) (tVar 4) (tC (.int 0))) (tCons (tTup (tCons (tOp rSubI (tVar 3) (tC (.int 1))) (tCons (tOp rAddI (tVar 1) (tC (.int 1))) tNil))) tNil))) (tCons (tTup (tCons (tOp (rIxT K) (tVar 4) (tC (.int 0))) (tCons (tTup (tCons (tOp rAddI (tVar 1) (tC (.int 1))) (tCons (tVar 3) tNil))) tNil))) tNil))))) (gName 5)) tNext) (Evl.tCut (tIfS (tTest (tOp rEq (tVar 1) (tC (.int 0)))) (tAsg (tOp rCat (tVar 5) (tLst (tCons (tTup (tCons (tTup (tCons (tC (.bl true)) tNil)) (tCons (tTup tNil) tNil))) (tCons (tTup (tCons (tTup tNil) (tCons (tTup (tCons (tC (.bl false)) tNil)) tNil))) tNil)))) (gName 5)) tNext) (tRet (tVar 5))))))))
theorem len_law_bad_rows {K : PySem.W.Frag} {vs : List V} {H : Hp} {Q : VK} {E : XK} (h : sp_law_bad_rows K vs H Q E) : vs.length = 3 := by
  obtain ⟨_, _, _, _, _, rfl, _⟩ := h; rfl
theorem pure_law_bad_rows {K : PySem.W.Frag} (vs : List V) (H : Hp) (Q : VK) (E : XK) (h : sp_law_bad_rows K vs H Q E) : t_law_bad_rows K E { nx := fun _ H' => Q .non H', rt := Q } (start N_law_bad_rows vs) H := by
  obtain ⟨sp, xs, rs, k, far, rfl, hs, R, ok, kl, f0, q⟩ := h
  have hr := List.getElem?_eq_getElem (l := rs) (i := k) kl
  have as := ok.2.2 k _ hr
  obtain ⟨y, hy, a, y1, y2, rfl, ha, g1, g2⟩ := R.2 k _ hr
  have xl := R.1
  obtain ⟨m, em⟩ : ∃ m : Nat, m = rs.length := ⟨_, rfl⟩
  have exl : xs.length = m := by omega
  rw [← em] at as kl
  unfold t_law_bad_rows
  repeat walk_at "mst"
  rw [exl]
  refine k_ixL (k_sq hs) (atI_nat hy) ?_
  repeat walk_at "mst"
  iterate 23
    walk_at "new"
    repeat walk_at "mst"
  walk_at "new"; rename_i bl nbl HB eB sB
  have B1 : Bads K HB wholeV 10 bl k m := by
    refine ⟨_, sB, Nat.le_of_ble_eq_true rfl, fun y my => ?_⟩
    simp only [List.mem_cons, List.not_mem_nil, or_false] at my
    rcases my with rfl | rfl | rfl | rfl | rfl | rfl | rfl | rfl
    · exact badR_1 (by walk_at "mtr") (by walk_at "mtr") (.int _) (wh_lo (by omega))
    · exact badR_2 (by walk_at "mtr") (goNil (by walk_at "mtr")) trivial (by walk_at "mtr") (.int _) (wh_lo (by omega))
    · exact badR_1 (by walk_at "mtr") (by walk_at "mtr") (.int _) (wh_hi (by omega))
    · exact badR_2 (by walk_at "mtr") (goNil (by walk_at "mtr")) trivial (by walk_at "mtr") (.int _) (wh_hi (by omega))
    · exact badR_1 (by walk_at "mtr") (by walk_at "mtr") (.int _) (wh_lo (by omega))
    · exact badR_l1 (by walk_at "mtr") (.lst (k_sq (by walk_at "mtr"))) (by decide)
    · exact badR_l2 (by walk_at "mtr") (goNil (by walk_at "mtr")) trivial (.lst (k_sq (by walk_at "mtr"))) (by decide)
    · exact badR_len (by walk_at "mtr") (Nat.ne_of_beq_eq_false rfl)
  have eH : Ex H HB := by walk_at "mex"
  have ha1 := eH _ _ ha
  repeat walk_at "mst"
  iterate 16
    walk_at "new"
    repeat walk_at "mst"
  walk_at "new"; rename_i cl ncl HC eC sC
  have B2 : Bads K HC wholeV 10 cl k m := by
    refine ⟨_, sC, Nat.le_of_ble_eq_true rfl, fun y my => ?_⟩
    simp only [List.mem_cons, List.not_mem_nil, or_false] at my
    rcases my with rfl | rfl | rfl | rfl | rfl | rfl | rfl | rfl | rfl | rfl
    · exact badR_len (by walk_at "mtr") (Nat.ne_of_beq_eq_false rfl)
    · exact badR_ty (.lst (k_sq (by walk_at "mtr"))) (by decide)
    · exact badR_ty .non (by decide)
    · exact badR_ty (.bl _) (by decide)
    · exact badR_len (by walk_at "mtr") (Nat.ne_of_beq_eq_false rfl)
    · exact badR_1 (by walk_at "mtr") (by walk_at "mtr") .non rfl
    · exact badR_2 (by walk_at "mtr") (goNil (by walk_at "mtr")) trivial (by walk_at "mtr") (.str _) rfl
    · exact badR_l2 (by walk_at "mtr") (g1.ex (eH.trans (by walk_at "mex"))) as.1 .non (by decide)
    · exact badR_l2 (by walk_at "mtr") (g1.ex (eH.trans (by walk_at "mex"))) as.1 (.int _) (by decide)
    · exact badR_ty (.str _) (by decide)
  have eBC : Ex HB HC := by walk_at "mex"
  have eHC := eH.trans eBC
  obtain ⟨ys1, h1, l1, b1⟩ := B1
  obtain ⟨ys2, h2, l2, b2⟩ := B2
  repeat walk_at "mst"
  refine n_cat (eBC _ _ h1) h2 (fits (by omega)) fun dl HD ndl eD hD => ?_
  have eHD := eHC.trans eD
  have B3 : Bads K HD wholeV 20 dl k m := ⟨_, hD, by rw [List.length_append]; omega, fun y my => by
    rcases List.mem_append.mp my with my | my
    · exact (b1 y my).ex (eBC.trans eD)
    · exact (b2 y my).ex eD⟩
  repeat walk_at "mst"
  refine k_cut (fun σ' H' => ∃ dl, H dl = none ∧ Ex H H' ∧ Bads K H' wholeV 30 dl k m ∧ σ' = [some (.ref sp), some (.int (k : Int)), some (.int far), some (.int (m : Int)), some (.ref a), some (.ref dl)]) ?_ ?_
  · have ha2 := eHD _ _ ha
    have g1' := g1.ex eHD
    have g2' := g2.ex eHD
    have ndl' := Evl.fresh_back eHC ndl
    clear b1 b2 h1 h2
    repeat walk_at "mst"
    refine k_iteD (fun z => ?_) (fun z => ?_)
    · repeat walk_at "mst"
      iterate 6
        walk_at "new"
        repeat walk_at "mst"
      walk_at "new"; rename_i el nel HE eE sE
      have k1 : (k : Int) + 1 ≤ (m : Int) - 1 := by omega
      have B4 : Bads K HE wholeV 10 el k m := by
        refine ⟨_, sE, Nat.le_of_ble_eq_true rfl, fun y my => ?_⟩
        simp only [List.mem_cons, List.not_mem_nil, or_false] at my
        rcases my with rfl | rfl | rfl
        · exact badR_1' (by walk_at "mtr") (by walk_at "mtr") (wh_in (by omega) (by omega)) (.int _) (wh_lo (by omega))
        · exact badR_2' (by walk_at "mtr") (g1'.ex (by walk_at "mex")) as.1 (by walk_at "mtr") (wh_in (by omega) (by omega)) (.int _) (wh_lo (by omega))
        · exact badR_2' (by walk_at "mtr") (g1'.ex (by walk_at "mex")) as.1 (by walk_at "mtr") (wh_in (by omega) (by omega)) (.int _) (wh_hi (by omega))
      have eDE : Ex HD HE := by walk_at "mex"
      obtain ⟨ys3, h3, l3, b3⟩ := B3
      obtain ⟨ys4, h4, l4, b4⟩ := B4
      repeat walk_at "mst"
      refine n_cat (eDE _ _ h3) h4 (fits (by omega)) fun fl HF nfl eF hF => ?_
      repeat walk_at "mst"
      refine ⟨fl, Evl.fresh_back (eHD.trans eDE) nfl, (eHD.trans eDE).trans eF, ⟨_, hF, by rw [List.length_append]; omega, fun y my => ?_⟩, rfl⟩
      rcases List.mem_append.mp my with my | my
      · exact (b3 y my).ex (eDE.trans eF)
      · exact (b4 y my).ex eF
    · repeat walk_at "mst"
      obtain ⟨ys3, h3, l3, b3⟩ := B3
      exact ⟨dl, ndl', eHD, ⟨ys3, h3, by omega, b3⟩, rfl⟩
  · rintro σ' H' ⟨dl, ndl, e, B5, rfl⟩
    repeat walk_at "mst"
    refine k_cut (fun σ' H' => ∃ dl, H dl = none ∧ Ex H H' ∧ Bads K H' wholeV 40 dl k m ∧ σ' = [some (.ref sp), some (.int (k : Int)), some (.int far), some (.int (m : Int)), some (.ref a), some (.ref dl)]) ?_ ?_
    · repeat walk_at "mst"
      refine k_iteD (fun z => ?_) (fun z => ?_)
      · repeat walk_at "mst"
        iterate 6
          walk_at "new"
          repeat walk_at "mst"
        walk_at "new"; rename_i el nel HE eE sE
        have B4 : Bads K HE wholeV 10 el k m := by
          refine ⟨_, sE, Nat.le_of_ble_eq_true rfl, fun y my => ?_⟩
          simp only [List.mem_cons, List.not_mem_nil, or_false] at my
          rcases my with rfl | rfl
          · exact badR_1 (by walk_at "mtr") (by walk_at "mtr") (.bl _) rfl
          · exact badR_2 (by walk_at "mtr") (goNil (by walk_at "mtr")) trivial (by walk_at "mtr") (.bl _) rfl
        have eDE : Ex H' HE := by walk_at "mex"
        obtain ⟨ys3, h3, l3, b3⟩ := B5
        obtain ⟨ys4, h4, l4, b4⟩ := B4
        repeat walk_at "mst"
        refine n_cat (eDE _ _ h3) h4 (fits (by omega)) fun fl HF nfl eF hF => ?_
        repeat walk_at "mst"
        refine ⟨fl, Evl.fresh_back (e.trans eDE) nfl, (e.trans eDE).trans eF, ⟨_, hF, by rw [List.length_append]; omega, fun y my => ?_⟩, rfl⟩
        rcases List.mem_append.mp my with my | my
        · exact (b3 y my).ex (eDE.trans eF)
        · exact (b4 y my).ex eF
      · repeat walk_at "mst"
        obtain ⟨ys3, h3, l3, b3⟩ := B5
        exact ⟨dl, ndl, e, ⟨ys3, h3, by omega, b3⟩, rfl⟩
    · rintro σ' H' ⟨dl, ndl, e, ⟨ys, h5, l5, b5⟩, rfl⟩
      repeat walk_at "mst"
      exact q dl ys H' ndl e h5 (by omega) (by rw [← em]; exact b5)
theorem use_bads {K : PySem.W.Frag} {H : Hp} {Q : VK} {E : XK} {sp : Addr} {xs : List V} {rs : List RowG} {k : Nat} {far : Int} (hs : H sp = some (.lst xs)) (R : RsAt H xs rs) (ok : OkR rs) (kl : k < rs.length) (f0 : 0 ≤ far) (q : ∀ p ys H', H p = none → Ex H H' → H' p = some (.lst ys) → ys.length ≤ 100 → (∀ y ∈ ys, BadR K H' wholeV (k : Int) rs.length y) → Q (.ref p) H') : sp_law_bad_rows K ([.ref sp, .int (k : Int), .int far] ++ []) H Q E := ⟨sp, xs, rs, k, far, rfl, hs, R, ok, kl, f0, q⟩
/-- things that make no table -/
def BadT (K : PySem.W.Frag) (H : Hp) (x pl : V) : Prop := (∃ T, TyB K H x T ∧ T ≠ "list")
  ∨ (∃ a xs, x = .ref a ∧ H a = some (.lst xs) ∧ (xs.length = 0 ∨ (40 < xs.length ∧ xs.length ≤ 1000)))
  ∨ (∃ a xs i y, x = .ref a ∧ H a = some (.lst xs) ∧ xs.length ≤ 40 ∧ xs[i]? = some y ∧ BadR K H wholeV (i : Nat) xs.length y ∧ ∀ (j : Nat) (y : V), j < i → xs[j]? = some y → ∃ r, RoAt H y r ∧ AscF ((j : Int) + 1) xs.length r.1 ∧ AscF ((j : Int) + 1) xs.length r.2)
  ∨ (∃ a xs rs T, x = .ref a ∧ H a = some (.lst xs) ∧ RsAt H xs rs ∧ OkR rs ∧ TyB K H pl T ∧ wholeV pl 0 (xs.length - 1) = false)
theorem BadT.ex {K : PySem.W.Frag} {H H' : Hp} {x pl : V} (b : BadT K H x pl) (e : Ex H H') : BadT K H' x pl := by
  rcases b with ⟨T, t, n⟩ | ⟨a, xs, r, h, l⟩ | ⟨a, xs, i, y, r, h, l, hy, br, good⟩ | ⟨a, xs, rs, T, r, h, R, ok, t, w⟩
  · exact Or.inl ⟨T, TyB.ex t e, n⟩
  · exact Or.inr (Or.inl ⟨a, xs, r, e _ _ h, l⟩)
  · exact Or.inr (Or.inr (Or.inl ⟨a, xs, i, y, r, e _ _ h, l, hy, br.ex e, fun j y hj hy => let ⟨r, h1, h2⟩ := good j y hj hy; ⟨r, h1.ex e, h2⟩⟩))
  · exact Or.inr (Or.inr (Or.inr ⟨a, xs, rs, T, r, e _ _ h, R.ex e, ok, TyB.ex t e, w⟩))
def sp_law_refused (K : PySem.W.Frag) : Sp := fun vs H Q _ => ∃ x pl, vs = [x, pl] ∧ BadT K H x pl ∧ ∀ H', Ex H H' → Q (.bl true) H'
local macro_rules | `(tactic| walk_at "mst") => `(tactic| first
  | with_reducible refine k_tryAs ?_
  | with_reducible refine k_makeS ?_
  | with_reducible refine k_when ⟨rfl, rfl⟩ ?_
  | ((refine k_isE (b := ?_) ?_ rel_ref ?_); rotate_left; (focus assumption))
  | ((refine k_isE (b := ?_) ?_ rel_ty ?_); rotate_left; (focus assumption)))
theorem mk_badT {K : PySem.W.Frag} {H : Hp} {Q : Addr → VK} {E : XK} {x pl : V} (b : BadT K H x pl) (k : ∀ H', Ex H H' → E (.ref (He.ga K "BadValue")) none H') :
    ∀ p dx, H p = none → H dx = none → dx ≠ p → sp_Table_d_init K (.ref p :: ([x, pl] ++ [])) (upd (upd H dx (.own p)) p (.ins (He.ga K "Table") dx [])) (Q p) E := by
  intro p dx hp hd hne
  have e : Ex H (upd (upd H dx (.own p)) p (.ins (He.ga K "Table") dx [])) := (Evl.Ex.new hd).trans (Evl.Ex.new (by rw [upd_ne hne.symm]; exact hp))
  refine ⟨p, dx, _, _, rfl, upd_same, Or.inr ?_⟩
  rcases b.ex e with ⟨T, t, n⟩ | ⟨a, xs, r, h, l⟩ | ⟨a, xs, i, y, r, h, l, hy, br, good⟩ | ⟨a, xs, rs, T, r, h, R, ok, t, w⟩
  · exact Or.inl ⟨T, t, n, k _ e⟩
  · exact Or.inr (Or.inl ⟨a, xs, r, k_sq h, l, k _ e⟩)
  · exact Or.inr (Or.inr (Or.inl ⟨a, xs, i, y, r, k_sq h, l, hy, br, good, fun H' e' => k _ (e.trans e')⟩))
  · exact Or.inr (Or.inr (Or.inr ⟨a, xs, rs, T, r, k_sq h, R, ok, t, w, fun H' e' => k _ (e.trans e')⟩))
abbrev N_law_refused : List Str := ["rows", "place", "e"]
def t_law_refused (K : PySem.W.Frag) (E : XK) : TS := (tSeq (tTryAs K (.ref (He.ga K "PlayError")) 2 (fun W => (tDrop (tMakeS (He.ga K "Table") (sp_Table_d_init K) [] (WE W) (tCons (tVar 0) (tCons (tVar 1) tNil))))) (fun a cls d => tWhen (cls = .ref (He.ga K "BadValue") ∧ d = none) (tSeq (tIfS (tOr (tB (tCB (rIsE K (He.ga K "BadValue") a) (tCons (tVar 2) (tCons (tC (.ref (He.ga K "BadText"))) tNil)))) (tOr (tB (tCB (rIsE K (He.ga K "BadValue") a) (tCons (tVar 2) (tCons (tC (.ref (He.ga K "NoMove"))) tNil)))) (tB (tCB (rIsE K (He.ga K "BadValue") a) (tCons (tVar 2) (tCons (tC (.ref (He.ga K "Unknown"))) tNil)))))) (tRet (tC (.bl false))) tNext) (tRet (tAndV (tCB (rIsE K (He.ga K "BadValue") a) (tCons (tVar 2) (tCons (tC (.ref (He.ga K "BadValue"))) tNil))) (tCB (rIsE K (He.ga K "BadValue") a) (tCons (tVar 2) (tCons (tC (.ty "ValueError")) tNil)))))))) (tRet (tC (.bl false))))
theorem len_law_refused {K : PySem.W.Frag} {vs : List V} {H : Hp} {Q : VK} {E : XK} (h : sp_law_refused K vs H Q E) : vs.length = 2 := by
  obtain ⟨_, _, rfl, _⟩ := h; rfl
theorem pure_law_refused {K : PySem.W.Frag} (F : FBadValue K) (vs : List V) (H : Hp) (Q : VK) (E : XK) (h : sp_law_refused K vs H Q E) : t_law_refused K E { nx := fun _ H' => Q .non H', rt := Q } (start N_law_refused vs) H := by
  obtain ⟨x, pl, rfl, b, q⟩ := h
  obtain ⟨f0, f1, f2, f3, f4, f5⟩ := F
  unfold t_law_refused
  repeat walk_at "mst"
  refine mk_badT b fun H1 e1 => ?_
  refine k_wAs f0 fun a ha => ?_
  repeat walk_at "mst"
  exact q _ e1
theorem use_trefused {K : PySem.W.Frag} {H : Hp} {Q : VK} {E : XK} {x pl : V} (b : BadT K H x pl) (q : ∀ H', Ex H H' → Q (.bl true) H') : sp_law_refused K ([x, pl] ++ []) H Q E := ⟨x, pl, rfl, b, q⟩
def sp_law_all_refused (K : PySem.W.Frag) : Sp := fun vs H Q _ => ∃ (sp : Addr) (xs : List V) (rs : List RowG) (k : Nat) (z far : Int), vs = [.ref sp, .int (k : Int), .int z, .int far] ∧ H sp = some (.lst xs) ∧ RsAt H xs rs ∧ OkR rs ∧ k < rs.length ∧ 0 ≤ far ∧ ∀ H', Ex H H' → Q (.bl true) H'
local macro_rules | `(tactic| walk_at "new") => `(tactic| ((first | refine ⟨fits (Nat.le_of_ble_eq_true rfl), ?_⟩ | skip); intro p np; generalize hq : upd _ p _ = H1; have e1 := nx np hq; have s1 := nS hq; clear hq))
local macro_rules | `(tactic| walk_at "mex") => `(tactic| first | assumption | exact Evl.Ex.refl _ | (refine Evl.Ex.trans (H1 := ?_) ?_ ?_; rotate_left; (focus assumption); walk_at "mex"))
abbrev N_law_all_refused : List Str := ["rows", "at", "place", "far", "bad", "thing"]
def t_law_all_refused (K : PySem.W.Frag) (E : XK) : TS := (tSeq (tFor (iList K (tCall (sp_law_bad_rows K) [] E0 (tCons (tVar 0) (tCons (tVar 1) (tCons (tVar 3) tNil))))) (gName 4) (tIfS (tNot (tB (tCall (sp_law_refused K) [] E0 (tCons (tOp rCat (tOp rCat (tSl (rSlL K) (tVar 0) tNoPart (tPart (tVar 1))) (tLst (tCons (tVar 4) tNil))) (tSl (rSlL K) (tVar 0) (tPart (tOp rAddI (tVar 1) (tC (.int 1)))) tNoPart)) (tCons (tVar 2) tNil))))) (tRet (tC (.bl false))) tNext)) (tSeq (tFor (iList K (tLst (tCons (tUn rNegI (tC (.int 1))) (tCons (tCB (rLenQ K) (tCons (tVar 0) tNil)) (tCons (tOp rAddI (tCB (rLenQ K) (tCons (tVar 0) tNil)) (tVar 3)) (tCons (tOp rSubI (tUn rNegI (tC (.int 1))) (tVar 3)) (tCons (tC .non) (tCons (tC (.bl true)) (tCons (tC (.bl false)) (tCons (tC (.str "0")) (tCons (tTup (tCons (tC (.int 0)) tNil)) (tCons (tLst tNil) tNil)))))))))))) (gName 5) (tIfS (tNot (tB (tCall (sp_law_refused K) [] E0 (tCons (tVar 0) (tCons (tVar 5) tNil))))) (tRet (tC (.bl false))) tNext)) (tSeq (tFor (iList K (tLst (tCons (tC .non) (tCons (tC (.int 5)) (tCons (tC (.bl true)) (tCons (tC (.str "12")) (tCons (tC (.str "")) (tCons (tTup tNil) (tCons (tTup (tCons (tC (.int 1)) (tCons (tC (.int 2)) tNil))) (tCons tDNewK tNil)))))))))) (gName 5) (tIfS (tNot (tB (tCall (sp_law_refused K) [] E0 (tCons (tVar 5) (tCons (tC (.int 0)) tNil))))) (tRet (tC (.bl false))) tNext)) (tSeq (tIfS (tOr (tNot (tB (tCall (sp_law_refused K) [] E0 (tCons (tLst tNil) (tCons (tC (.int 0)) tNil))))) (tNot (tB (tCall (sp_law_refused K) [] E0 (tCons (tCB (rTupL K) (tCons (tVar 0) tNil)) (tCons (tVar 2) tNil)))))) (tRet (tC (.bl false))) tNext) (tRet (tCall (sp_law_refused K) [] E0 (tCons (tOp rCat (tVar 0) (tOp rRep (tLst (tCons (tTup (tCons (tTup tNil) (tCons (tTup tNil) tNil))) tNil)) (tOp rSubI (tC (.int 41)) (tCB (rLenQ K) (tCons (tVar 0) tNil))))) (tCons (tVar 2) tNil))))))))
theorem len_law_all_refused {K : PySem.W.Frag} {vs : List V} {H : Hp} {Q : VK} {E : XK} (h : sp_law_all_refused K vs H Q E) : vs.length = 4 := by
  obtain ⟨_, _, _, _, _, _, rfl, _⟩ := h; rfl
theorem len_rep {n : Nat} {v : V} : (List.replicate n [v]).flatten.length = n := by
  induction n with
  | zero => rfl
  | succ n ih => rw [List.replicate_succ, List.flatten_cons, List.length_append, ih]; exact Nat.add_comm _ _
theorem bad_in {K : PySem.W.Frag} {H : Hp} {g : Addr} {xs : List V} {rs : List RowG} {k : Nat} {y pl : V} (hg : H g = some (.lst ((xs.take k ++ [y]) ++ xs.drop (k + 1)))) (R : RsAt H xs rs) (ok : OkR rs) (kl : k < rs.length) (b : BadR K H wholeV (k : Int) rs.length y) : BadT K H (.ref g) pl := by
  have xl := R.1
  have l : ((xs.take k ++ [y]) ++ xs.drop (k + 1)).length = rs.length := by
    rw [List.length_append, List.length_append, List.length_take, List.length_drop, List.length_singleton]; omega
  have tl : (xs.take k).length = k := by rw [List.length_take]; omega
  refine Or.inr (Or.inr (Or.inl ⟨g, _, k, y, rfl, hg, by rw [l]; exact ok.2.1, ?_, by rw [l]; exact b, fun j y' hj hy => ?_⟩))
  · rw [List.append_assoc, List.getElem?_append_right (by omega), tl, Nat.sub_self]; rfl
  · rw [List.append_assoc, List.getElem?_append_left (by omega), List.getElem?_take_of_lt hj] at hy
    have hr := List.getElem?_eq_getElem (l := rs) (i := j) (by omega)
    obtain ⟨y2, h2, ro⟩ := R.2 j _ hr
    rw [hy] at h2
    injection h2 with h2
    subst h2
    rw [l]
    exact ⟨_, ro, ok.2.2 j _ hr⟩
theorem pure_law_all_refused {K : PySem.W.Frag} (vs : List V) (H : Hp) (Q : VK) (E : XK) (h : sp_law_all_refused K vs H Q E) : t_law_all_refused K E { nx := fun _ H' => Q .non H', rt := Q } (start N_law_all_refused vs) H := by
  obtain ⟨sp, xs, rs, k, z, far, rfl, hs, R, ok, kl, f0, q⟩ := h
  have xl := R.1
  have o1 := ok.1
  have o2 := ok.2.1
  unfold t_law_all_refused
  repeat walk_at "mst"
  refine use_bads hs R ok kl f0 fun bp ys H1 nb e1 hb bl bad => ?_
  have hs1 := e1 _ _ hs
  have R1 := R.ex e1
  repeat walk_at "mst"
  refine ⟨bp, rfl, ⟨_, k_sq hb⟩, forK_list (xs := ys) (fun i σ H' => Ex H1 H' ∧ ∃ x4 : Option V, σ = [some (.ref sp), some (.int (k : Int)), some (.int z), some (.int far), x4, none]) ⟨Evl.Ex.refl _, _, rfl⟩ ?_ ?_ ?_⟩
  · rintro i σ H' _ ⟨e, _⟩; exact k_sq (e _ _ hb)
  · rintro i y σ H' hy ⟨e, x4, rfl⟩
    have by_ := bad y (List.mem_of_getElem? hy)
    have hs' := e _ _ hs1
    repeat walk_at "mst"
    refine n_sl (k_sq hs') fun a Ha na ea sa => ?_
    rw [cut_cut (by omega)] at sa
    repeat walk_at "mst"
    walk_at "new"; rename_i b nb Hb eb sb
    repeat walk_at "mst"
    refine n_cat (eb _ _ sa) sb (fits (by rw [List.length_take]; show _ + 1 ≤ _; omega)) fun c Hc nc ec sc => ?_
    have e4 := (ea.trans eb).trans ec
    repeat walk_at "mst"
    refine n_sl (k_sq (e4 _ _ hs')) fun d Hd nd ed sd => ?_
    rw [show (k : Int) + 1 = ((k + 1 : Nat) : Int) by omega, cut_off (by omega)] at sd
    repeat walk_at "mst"
    refine n_cat (ed _ _ sc) sd (fits (by rw [List.length_append, List.length_take, List.length_drop]; show _ + 1 + _ ≤ _; omega)) fun f Hf nf ef sf => ?_
    have e5 := (e4.trans ed).trans ef
    repeat walk_at "mst"
    refine use_trefused (bad_in sf (R1.ex (e.trans e5)) ok kl (by_.ex (e.trans e5))) fun H5 e6 => ?_
    repeat walk_at "mst"
    exact ⟨(e.trans e5).trans e6, _, rfl⟩
  · rintro σ H' ⟨e, x4, rfl⟩
    have hs' := e _ _ hs1
    have R' := R1.ex e
    have e0 := e1.trans e
    clear bad
    repeat walk_at "mst"
    walk_at "new"; rename_i u1 nu1 I1 f1 t1
    repeat walk_at "mst"
    walk_at "new"; rename_i u2 nu2 I2 f2 t2
    repeat walk_at "mst"
    walk_at "new"; rename_i tl ntl HT eT sT
    have all : ∀ y ∈ ([.int (-1), .int xs.length, .int (xs.length + far), .int (-1 - far), .non, .bl true, .bl false, .str "0", .ref u1, .ref u2] : List V), ∃ T, TyB K HT y T ∧ wholeV y 0 ((xs.length : Int) - 1) = false := by
      intro y m
      simp only [List.mem_cons, List.not_mem_nil, or_false] at m
      rcases m with rfl | rfl | rfl | rfl | rfl | rfl | rfl | rfl | rfl | rfl
      · exact ⟨_, .int _, wh_lo (by omega)⟩
      · exact ⟨_, .int _, wh_hi (by omega)⟩
      · exact ⟨_, .int _, wh_hi (by omega)⟩
      · exact ⟨_, .int _, wh_lo (by omega)⟩
      · exact ⟨_, .non, rfl⟩
      · exact ⟨_, .bl _, rfl⟩
      · exact ⟨_, .bl _, rfl⟩
      · exact ⟨_, .str _, rfl⟩
      · exact ⟨_, .tup (k_st (eT _ _ (f2 _ _ t1))), rfl⟩
      · exact ⟨_, .lst (k_sq (eT _ _ t2)), rfl⟩
    have fx := (f1.trans f2).trans eT
    have hsT := fx _ _ hs'
    have RT := R'.ex fx
    repeat walk_at "mst"
    refine ⟨_, rfl, ⟨_, k_sq sT⟩, forK_list (xs := [.int (-1), .int xs.length, .int (xs.length + far), .int (-1 - far), .non, .bl true, .bl false, .str "0", .ref u1, .ref u2]) (fun i σ H' => Ex HT H' ∧ ∃ x5 : Option V, σ = [some (.ref sp), some (.int (k : Int)), some (.int z), some (.int far), x4, x5]) ⟨Evl.Ex.refl _, _, rfl⟩ ?_ ?_ ?_⟩
    · rintro i σ H'' _ ⟨e, _⟩; exact k_sq (e _ _ sT)
    · rintro i x σ H'' hx ⟨e7, x5, rfl⟩
      obtain ⟨T, tT, w⟩ := all x (List.mem_of_getElem? hx)
      repeat walk_at "mst"
      refine use_trefused (Or.inr (Or.inr (Or.inr ⟨sp, xs, rs, T, rfl, e7 _ _ hsT, RT.ex e7, ok, TyB.ex tT e7, w⟩))) fun H5 e8 => ?_
      repeat walk_at "mst"
      exact ⟨e7.trans e8, _, rfl⟩
    · rintro σ H'' ⟨e7, x5, rfl⟩
      have e9 := (e0.trans fx).trans e7
      have hs9 := e9 _ _ hs
      clear all
      repeat walk_at "mst"
      walk_at "new"; rename_i v1 nv1 J1 g1 r1
      repeat walk_at "mst"
      walk_at "new"; rename_i v2 nv2 J2 g2 r2
      repeat walk_at "mst"
      walk_at "new"; rename_i v3 nv3 J3 g3 r3
      repeat walk_at "mst"
      walk_at "new"; rename_i v4 nv4 J4 g4 r4
      have gx := (g1.trans g2).trans (g3.trans g4)
      have all : ∀ y ∈ ([.non, .int 5, .bl true, .str "12", .str "", .ref v1, .ref v2, .ref v3] : List V), ∃ T, TyB K J4 y T ∧ T ≠ "list" := by
        intro y m
        simp only [List.mem_cons, List.not_mem_nil, or_false] at m
        rcases m with rfl | rfl | rfl | rfl | rfl | rfl | rfl | rfl
        · exact ⟨_, .non, by decide⟩
        · exact ⟨_, .int _, by decide⟩
        · exact ⟨_, .bl _, by decide⟩
        · exact ⟨_, .str _, by decide⟩
        · exact ⟨_, .str _, by decide⟩
        · exact ⟨_, .tup (k_st (g4 _ _ (g3 _ _ (g2 _ _ r1)))), by decide⟩
        · exact ⟨_, .tup (k_st (g4 _ _ (g3 _ _ r2))), by decide⟩
        · exact ⟨_, .dK (g4 _ _ r3), by decide⟩
      repeat walk_at "mst"
      refine ⟨_, rfl, ⟨_, k_sq r4⟩, forK_list (xs := [.non, .int 5, .bl true, .str "12", .str "", .ref v1, .ref v2, .ref v3]) (fun i σ H' => Ex J4 H' ∧ ∃ x5 : Option V, σ = [some (.ref sp), some (.int (k : Int)), some (.int z), some (.int far), x4, x5]) ⟨Evl.Ex.refl _, _, rfl⟩ ?_ ?_ ?_⟩
      · rintro i σ H3 _ ⟨e, _⟩; exact k_sq (e _ _ r4)
      · rintro i x σ H3 hx ⟨ea, x5, rfl⟩
        obtain ⟨T, tT, w⟩ := all x (List.mem_of_getElem? hx)
        repeat walk_at "mst"
        refine use_trefused (Or.inl ⟨T, TyB.ex tT ea, w⟩) fun H5 e8 => ?_
        repeat walk_at "mst"
        exact ⟨ea.trans e8, _, rfl⟩
      · rintro σ H3 ⟨ea, x5, rfl⟩
        have eb := (e9.trans gx).trans ea
        have hsb := eb _ _ hs
        repeat walk_at "mst"
        walk_at "new"; rename_i w1 nw1 L1 h1 q1
        repeat walk_at "mst"
        refine use_trefused (Or.inr (Or.inl ⟨w1, [], rfl, q1, Or.inl rfl⟩)) fun L2 h2 => ?_
        have hs2 := h2 _ _ (h1 _ _ hsb)
        repeat walk_at "mst"
        walk_at "new"; rename_i w2 nw2 L3 h3 q3
        repeat walk_at "mst"
        refine use_trefused (Or.inl ⟨_, .tup (k_st q3), by decide⟩) fun L4 h4 => ?_
        have hs4 := h4 _ _ (h3 _ _ hs2)
        repeat walk_at "mst"
        walk_at "new"; rename_i w3 nw3 L5 h5 q5
        repeat walk_at "mst"
        walk_at "new"; rename_i w4 nw4 L6 h6 q6
        repeat walk_at "mst"
        walk_at "new"; rename_i w5 nw5 L7 h7 q7
        repeat walk_at "mst"
        walk_at "new"; rename_i w6 nw6 L8 h8 q8
        have h58 := (h5.trans h6).trans (h7.trans h8)
        repeat walk_at "mst"
        refine n_rep q8 (by omega) (by omega) (fits (by show 1 * _ ≤ _; omega)) fun w7 L9 nw7 h9 q9 => ?_
        repeat walk_at "mst"
        refine n_cat (h9 _ _ (h58 _ _ hs4)) q9 (fits (by rw [len_rep]; omega)) fun w8 LA nw8 hA qA => ?_
        repeat walk_at "mst"
        refine use_trefused (Or.inr (Or.inl ⟨w8, _, rfl, qA, Or.inr (by rw [List.length_append, len_rep]; omega)⟩)) fun LB hB => ?_
        exact q LB (((((eb.trans h1).trans h2).trans (h3.trans h4)).trans (h58.trans h9)).trans (hA.trans hB))
theorem use_tarefused {K : PySem.W.Frag} {H : Hp} {Q : VK} {E : XK} {sp : Addr} {xs : List V} {rs : List RowG} {k : Nat} {z far : Int} (hs : H sp = some (.lst xs)) (R : RsAt H xs rs) (ok : OkR rs) (kl : k < rs.length) (f0 : 0 ≤ far) (q : ∀ H', Ex H H' → Q (.bl true) H') : sp_law_all_refused K ([.ref sp, .int (k : Int), .int z, .int far] ++ []) H Q E := ⟨sp, xs, rs, k, z, far, rfl, hs, R, ok, kl, f0, q⟩
def sp_law (K : PySem.W.Frag) : Sp := spR (fun vs H => ∃ (a : Addr) (ns : List Int), vs = [.ref a] ∧ SqL K H a (ns.map V.int)) (fun _ _ v _ => v = .bl true)
local macro_rules | `(tactic| walk_at "new") => `(tactic| ((first | refine ⟨fits (Nat.le_of_ble_eq_true rfl), ?_⟩ | skip); intro p np; generalize hq : upd _ p _ = H1; have e1 := nx np hq; have s1 := nS hq; clear hq))
abbrev N_law : List Str := ["script", "rows", "place", "passed", "board", "last", "far", "turn", "digits", "side", "dues"]
def t_law (K : PySem.W.Frag) (E : XK) : TS := (tSeq (tAsg (tCall (sp_law_rows K) [] E0 (tCons (tVar 0) (tCons (tC (.int 2)) (tCons (tCall (sp_law_cell K) [] E0 (tCons (tVar 0) (tCons (tC (.int 0)) tNil))) tNil)))) (gName 1)) (tSeq (tAsg (tOp rModI (tCB rIntI (tCons (tCall (sp_law_cell K) [] E0 (tCons (tVar 0) (tCons (tC (.int 1)) tNil))) tNil)) (tCB (rLenQ K) (tCons (tVar 1) tNil))) (gName 2)) (tSeq (tAsg (tCB (rListQ K) (tCons (tVar 1) tNil)) (gName 3)) (tSeq (tAsg (tMake (He.ga K "Table") (sp_Table_d_init K) [] E0 (tCons (tVar 3) (tCons (tVar 2) tNil))) (gName 4)) (tSeq (tIfS (tTest (tOp (rNeD K) (tVar 3) (tVar 1))) (tRet (tC (.bl false))) tNext) (tSeq (tAsg (tTup (tCons (tTup tNil) (tCons (tTup tNil) tNil))) (gSub (tVar 3) (tC (.int 0)) L2.rSetL)) (tSeq (tDrop (tBM K "list" rAppend (tVar 3) (tCons (tTup (tCons (tTup tNil) (tCons (tTup tNil) tNil))) tNil))) (tSeq (tAsg (tMake (He.ga K "Table") (sp_Table_d_init K) [] E0 (tCons (tVar 1) (tCons (tOp rSubI (tCB (rLenQ K) (tCons (tVar 1) tNil)) (tC (.int 1))) tNil))) (gName 5)) (tSeq (tIfS (tOr (tNot (tB (tCall (sp_law_asked K) [] E0 (tCons (tVar 4) (tCons (tCB (rTupL K) (tCons (tVar 1) tNil)) (tCons (tVar 2) tNil)))))) (tNot (tB (tCall (sp_law_asked K) [] E0 (tCons (tVar 5) (tCons (tCB (rTupL K) (tCons (tVar 1) tNil)) (tCons (tOp rSubI (tCB (rLenQ K) (tCons (tVar 1) tNil)) (tC (.int 1))) tNil))))))) (tRet (tC (.bl false))) tNext) (tSeq (tAsg (tOp rModI (tCB rIntI (tCons (tCall (sp_law_cell K) [] E0 (tCons (tVar 0) (tCons (tC (.int 0)) tNil))) tNil)) (tOp rPowI (tC (.int 10)) (tC (.int 30)))) (gName 6)) (tSeq (tIfS (tNot (tB (tCall (sp_law_all_refused K) [] E0 (tCons (tVar 1) (tCons (tOp rModI (tCB rIntI (tCons (tCall (sp_law_cell K) [] E0 (tCons (tVar 0) (tCons (tC (.int 2)) tNil))) tNil)) (tCB (rLenQ K) (tCons (tVar 1) tNil))) (tCons (tVar 2) (tCons (tVar 6) tNil))))))) (tRet (tC (.bl false))) tNext) (tSeq (tFor (iRng1 (tCons (tC (.int 4)) tNil)) (gName 7) (tSeq (tAsg (tCall (sp_law_digits K) [] E0 (tCons (tCall (sp_law_cell K) [] E0 (tCons (tVar 0) (tCons (tOp rAddI (tC (.int 43)) (tVar 7)) tNil))) (tCons (tC (.int 2)) tNil))) (gName 8)) (tSeq (tAsg (tOp (rIxL K) (tLst (tCons (tC (.str "left")) (tCons (tC (.str "right")) tNil))) (tOp rModI (tCB rIntI (tCons (tOp (rIxL K) (tVar 8) (tC (.int 0))) tNil)) (tC (.int 2)))) (gName 9)) (tSeq (tAsg (tCall (sp_law_table_moves K) [] E0 (tCons (tCB (rTupL K) (tCons (tVar 1) tNil)) (tCons (tVar 2) (tCons (tVar 9) tNil)))) (gName 10)) (tIfS (tTest (tOp rGtI (tCB (rLenQ K) (tCons (tVar 10) tNil)) (tC (.int 0)))) (tSeq (tAsg (tOp (rIxL K) (tMeth (He.ga K "Table") "moves" (sp_Table_m_moves K) [] E0 (tVar 4) (tCons (tVar 9) tNil)) (tOp rModI (tCB rIntI (tCons (tOp (rIxL K) (tVar 8) (tC (.int 1))) tNil)) (tCB (rLenQ K) (tCons (tVar 10) tNil)))) (gName 4)) (tSeq (tAsg (tOp (rIxT K) (tOp (rIxL K) (tVar 10) (tOp rModI (tCB rIntI (tCons (tOp (rIxL K) (tVar 8) (tC (.int 1))) tNil)) (tCB (rLenQ K) (tCons (tVar 10) tNil)))) (tC (.int 2))) (gName 2)) (tIfS (tNot (tB (tCall (sp_law_asked K) [] E0 (tCons (tVar 4) (tCons (tCB (rTupL K) (tCons (tVar 1) tNil)) (tCons (tVar 2) tNil)))))) (tRet (tC (.bl false))) tNext))) tNext))))) (tRet (tC (.bl true)))))))))))))))
theorem len_law {K : PySem.W.Frag} {vs : List V} {H : Hp} {Q : VK} {E : XK} (h : sp_law K vs H Q E) : vs.length = 1 := by
  obtain ⟨⟨_, _, rfl, _⟩, _⟩ := h; rfl
theorem idx_mod {n : Nat} (h : 1 ≤ n) (c : Int) : ∃ k : Nat, c % (n : Int) = (k : Int) ∧ k < n := by
  have h1 := Int.emod_nonneg c (b := (n : Int)) (by omega)
  have h2 := Int.emod_lt_of_pos c (b := (n : Int)) (by omega)
  exact ⟨(c % (n : Int)).toNat, by omega, by omega⟩
theorem pure_law {K : PySem.W.Frag} (vs : List V) (H : Hp) (Q : VK) (E : XK) (h : sp_law K vs H Q E) : t_law K E { nx := fun _ H' => Q .non H', rt := Q } (start N_law vs) H := by
  obtain ⟨⟨a, sc, rfl, hS⟩, q⟩ := h
  have fin : ∀ b H', b = true → Q (.bl b) H' := by rintro b H' rfl; exact q _ _ rfl
  unfold t_law
  repeat walk_at "mst"
  refine use_cell hS (by decide) fun c0 => ?_
  repeat walk_at "mst"
  refine use_rows hS (by decide) fun sp xs rs H1 np1 e1 hs R ok => ?_
  have hS1 := Evl.ex_l e1 hS
  have xl := R.1
  have o1 := ok.1
  have o2 := ok.2.1
  repeat walk_at "mst"
  refine use_cell hS1 (by decide) fun c1 => ?_
  repeat walk_at "mst"
  obtain ⟨k, ek, kl⟩ := idx_mod (n := xs.length) (by omega) c1
  rw [ek]
  repeat walk_at "mst"
  walk_at "new"; rename_i pp npp H2 e2 hpp
  have hs2 := e2 _ _ hs
  repeat walk_at "mst"
  refine mk_tb (k_sq hpp) (R.ex e2) ok (by omega) (by omega) fun b H3 nb e3 hB => ?_
  have hpp3 := e3 _ _ hpp
  have e23 := e2.trans e3
  repeat walk_at "mst"
  refine k_neRows (k_sq hpp3) (k_sq (e23 _ _ hs)) (R.ex e23) ?_
  repeat walk_at "mst"
  walk_at "new"; rename_i p1 n1 H4 e4 s4
  repeat walk_at "mst"
  walk_at "new"; rename_i p2 n2 H5 e5 s5
  repeat walk_at "mst"
  walk_at "new"; rename_i p3 n3 H6 e6 s6
  have e36 := (e4.trans e5).trans e6
  have hpp6 := e36 _ _ hpp3
  have hB6 := hB.ex e36
  have e26 := e23.trans e36
  repeat walk_at "mst"
  refine ⟨pp, _, 0, 0, rfl, rfl, hpp6, by unfold ixN; rw [if_pos (by decide), if_pos (by omega)]; rfl, ?_⟩
  have hB7 := hB6.set (o := HO.lst (xs.set 0 (V.ref p3))) hpp6
  have e7 := Evl.Ex.mut (o := HO.lst (xs.set 0 (V.ref p3))) e26 npp
  have s7 : upd H6 pp (HO.lst (xs.set 0 (V.ref p3))) pp = some (HO.lst (xs.set 0 (V.ref p3))) := upd_same
  generalize upd H6 pp (HO.lst (xs.set 0 (V.ref p3))) = H7 at *
  repeat walk_at "mst"
  walk_at "new"; rename_i p4 n4 H8 e8 s8
  repeat walk_at "mst"
  walk_at "new"; rename_i p5 n5 H9 e9 s9
  repeat walk_at "mst"
  walk_at "new"; rename_i p6 n6 HA eA sA
  have e7A := (e8.trans e9).trans eA
  have sA7 := e7A _ _ s7
  have hBA := hB7.ex e7A
  have e1A := e7.trans e7A
  repeat walk_at "mst"
  · rw [List.length_set]; exact fits' (by omega)
  have hBB := hBA.set (o := HO.lst (xs.set 0 (V.ref p3) ++ [V.ref p6])) sA7
  have eB := Evl.Ex.mut (o := HO.lst (xs.set 0 (V.ref p3) ++ [V.ref p6])) e1A npp
  generalize upd HA pp (HO.lst (xs.set 0 (V.ref p3) ++ [V.ref p6])) = HB at *
  have hsB := eB _ _ hs
  have RB := R.ex eB
  have hSB := Evl.ex_l eB hS1
  clear hB hB6 hB7 hBA hpp hpp3 hpp6 s4 s5 s6 s7 s8 s9 sA sA7 hs2 e4 e5 e6 e7 e8 e9 eA e7A e1A e26 e36 e23 e3 e2
  repeat walk_at "mst"
  have el : ((xs.length : Nat) : Int) - 1 = ((xs.length - 1 : Nat) : Int) := by omega
  rw [el]
  refine mk_tb (k_sq hsB) RB ok (by omega) (by omega) fun c HC nc eC hC => ?_
  have hBC := hBB.ex eC
  have hsC := eC _ _ hsB
  repeat walk_at "mst"
  walk_at "new"; rename_i u1 nu1 HD eD sD
  have eBD := eC.trans eD
  repeat walk_at "mst"
  refine use_tasked (hBC.ex eD) sD (RB.ex eBD) ok (by omega) fun HE eE => ?_
  have eBE := eBD.trans eE
  have hsE := eBE _ _ hsB
  repeat walk_at "mst"
  walk_at "new"; rename_i u2 nu2 HF eF sF
  have eBF := eBE.trans eF
  repeat walk_at "mst"
  rw [el]
  refine use_tasked (hC.ex ((eD.trans eE).trans eF)) sF (RB.ex eBF) ok (by omega) fun HG eG => ?_
  have eBG := eBF.trans eG
  have hsG := eBG _ _ hsB
  have RG := RB.ex eBG
  have hBG := hBB.ex eBG
  have hSG := Evl.ex_l eBG hSB
  clear hBC hsC hBB hC sD sF hsE hsB
  repeat walk_at "mst"
  refine use_cell hSG (by decide) fun c2 => ?_
  repeat walk_at "mst"
  refine use_cell hSG (by decide) fun c3 => ?_
  repeat walk_at "mst"
  obtain ⟨k3, ek3, kl3⟩ := idx_mod (n := xs.length) (by omega) c3
  rw [ek3]
  refine use_tarefused hsG RG ok (by omega) (Int.emod_nonneg _ (by decide)) fun HL eL => ?_
  have hsL := eL _ _ hsG
  have RL := RG.ex eL
  have hBL := hBG.ex eL
  have hSL := Evl.ex_l eL hSG
  repeat walk_at "mst"
  refine ⟨_, rfl, by decide, by decide, ?_⟩
  refine forK_range (n := Int.toNat 4) (fun i σ H' => ∃ (k : Nat) (b : Addr) (x7 x8 x9 x10 : Option V), Ex HL H' ∧ TbAt K H' b xs (.int (k : Int)) ∧ k < rs.length ∧ σ = [some (.ref a), some (.ref sp), some (.int (k : Int)), some (.ref pp), some (.ref b), some (.ref c), some (.int (c2 % 1000000000000000000000000000000)), x7, x8, x9, x10]) ⟨k, b, _, _, _, _, Evl.Ex.refl _, hBL, by omega, rfl⟩ ?_ ?_
  · rintro i σ H' hi ⟨k, b, x7, x8, x9, x10, e, hB, kl, rfl⟩
    have hS' := Evl.ex_l e hSL
    have hs' := e _ _ hsL
    have hr := List.getElem?_eq_getElem (l := rs) (i := k) kl
    generalize rs[k] = r at *
    repeat walk_at "mst"
    refine use_cell hS' (by omega) fun c4 => ?_
    repeat walk_at "mst"
    refine use_digits ⟨by decide, by decide⟩ fun dp ds H2 ndp e2 hd hl hb => ?_
    obtain ⟨d0, a0, b0, _⟩ := dg_of hb (k := 0) (by decide) (by omega)
    obtain ⟨d1, a1, b1, _⟩ := dg_of hb (k := 1) (by decide) (by omega)
    repeat walk_at "mst"
    walk_at "new"; rename_i lr nlr H3 e3 s3
    have e13 := e2.trans e3
    have hd3 := e3 _ _ hd
    repeat walk_at "mst"
    refine k_ixL (k_sq hd3) a0 ?_
    obtain ⟨s, is⟩ : ∃ s : Str, atI ([.str "left", .str "right"] : List V) (d0 % 2) = some (V.str s) := by
      rcases (show d0 % 2 = 0 ∨ d0 % 2 = 1 by omega) with z | z
      · exact ⟨"left", by rw [z]; rfl⟩
      · exact ⟨"right", by rw [z]; rfl⟩
    repeat walk_at "mst"
    refine k_ixL (k_sq s3) is ?_
    have hs3 := e13 _ _ hs'
    repeat walk_at "mst"
    walk_at "new"; rename_i tq ntq H4 e4 s4
    have e14 := e13.trans e4
    have R4 := RL.ex (e.trans e14)
    repeat walk_at "mst"
    refine use_tdues s4 R4 ok hr fun du ys H5 ndu e5 hdu dus => ?_
    have e15 := e14.trans e5
    have R5 := R4.ex e5
    have hd5 := e5 _ _ (e4 _ _ hd3)
    have dl := dus.1
    repeat walk_at "mst"
    refine k_iteD (fun pos => ?_) (fun _ => ?_)
    · obtain ⟨dx, t, hB1, hB2⟩ := hB.ex e15
      repeat walk_at "mst"
      refine ⟨b, dx, _, rfl, hB1, tfs_no _ _ (by decide +kernel) (by decide +kernel), ?_⟩
      repeat walk_at "mst"
      refine use_tmoves ⟨dx, t, hB1, hB2⟩ R5 ok hr fun m bs H6 nm e6 hm tb => ?_
      have hd6 := e6 _ _ hd5
      have hdu6 := e6 _ _ hdu
      repeat walk_at "mst"
      refine k_ixL (k_sq hd6) a1 ?_
      repeat walk_at "mst"
      obtain ⟨j, ej, jl⟩ := idx_mod (n := ys.length) (by omega) d1
      rw [ej]
      have gz := List.getElem?_eq_getElem (l := sideG s r) (i := j) (by omega)
      have bz := (ok.side hr s).mem (List.mem_of_getElem? gz)
      obtain ⟨b2, hb2, hB2⟩ := tb.2 j _ gz
      obtain ⟨w2, hw2, hW2⟩ := dus.2 j _ gz
      generalize (sideG s r)[j]'(by omega) = z at *
      obtain ⟨zn, rfl⟩ : ∃ zn : Nat, z = (zn : Int) := ⟨z.toNat, by omega⟩
      refine k_ixL (k_sq hm) (atI_nat hb2) ?_
      repeat walk_at "mst"
      refine k_ixL (k_sq hd6) a1 ?_
      repeat walk_at "mst"
      rw [ej]
      refine k_ixL (k_sq hdu6) (atI_nat hw2) ?_
      have hW6 := e6 _ _ hW2
      have hs6 := e6 _ _ (e5 _ _ (e4 _ _ hs3))
      repeat walk_at "mst"
      walk_at "new"; rename_i u3 nu3 H7 e7 s7
      repeat walk_at "mst"
      refine use_tasked (hB2.ex e7) s7 (R5.ex (e6.trans e7)) ok (by omega) fun H8 e8 => ?_
      repeat walk_at "mst"
      exact ⟨zn, b2, _, _, _, _, (e.trans e15).trans ((e6.trans e7).trans e8), hB2.ex (e7.trans e8), by omega, rfl⟩
    · repeat walk_at "mst"
      exact ⟨k, b, _, _, _, _, e.trans e15, hB.ex e15, kl, rfl⟩
  · rintro σ H' ⟨k, b, x7, x8, x9, x10, e, hB, kl, rfl⟩
    repeat walk_at "mst"
    exact fin _ _ rfl
def top (i : Nat) : Stmt := PySem.Challenge.pw_sumsplay_k62_tables.main.body.getD i (.Pass ⟨0, 0, 0, 0⟩)
abbrev s_law_digits : Stmt := top 14
abbrev R_law_digits : List Str := ["cell", "count", "row", "k", "seed"]
theorem sc_law_digits : FnScope R_law_digits ["cell", "count"] (defScope s_law_digits) := ⟨rfl, rfl, rfl, by decide +kernel, rfl, by decide +kernel, by decide +kernel⟩
abbrev ad_law_digits (K : PySem.W.Frag) : Addr := He.ga K "_law_digits"
abbrev s_law_cell : Stmt := top 13
abbrev R_law_cell : List Str := ["script", "k", "mixed", "cell"]
theorem sc_law_cell : FnScope R_law_cell ["script", "k"] (defScope s_law_cell) := ⟨rfl, rfl, rfl, by decide +kernel, rfl, by decide +kernel, by decide +kernel⟩
abbrev ad_law_cell (K : PySem.W.Frag) : Addr := He.ga K "_law_cell"
abbrev s_law_goals : Stmt := top 19
abbrev R_law_goals : List Str := ["digits", "place", "many", "picked", "k", "goal"]
theorem sc_law_goals : FnScope R_law_goals ["digits", "place", "many"] (defScope s_law_goals) := ⟨rfl, rfl, rfl, by decide +kernel, rfl, by decide +kernel, by decide +kernel⟩
abbrev ad_law_goals (K : PySem.W.Frag) : Addr := He.ga K "_law_goals"
abbrev s_law_rows : Stmt := top 20
abbrev R_law_rows : List Str := ["script", "first", "cell", "many", "rows", "place", "digits"]
theorem sc_law_rows : FnScope R_law_rows ["script", "first", "cell"] (defScope s_law_rows) := ⟨rfl, rfl, rfl, by decide +kernel, rfl, by decide +kernel, by decide +kernel⟩
abbrev ad_law_rows (K : PySem.W.Frag) : Addr := He.ga K "_law_rows"
abbrev s_is_whole : Stmt := top 7
abbrev R_is_whole : List Str := ["thing", "least", "most"]
theorem sc_is_whole : FnScope R_is_whole ["thing", "least", "most"] (defScope s_is_whole) := ⟨rfl, rfl, rfl, by decide +kernel, rfl, by decide +kernel, by decide +kernel⟩
abbrev ad_is_whole (K : PySem.W.Frag) : Addr := He.ga K "is_whole"
abbrev s_check_row : Stmt := top 11
abbrev R_check_row : List Str := ["row", "at", "count", "places", "least", "place"]
theorem sc_check_row : FnScope R_check_row ["row", "at", "count"] (defScope s_check_row) := ⟨rfl, rfl, rfl, by decide +kernel, rfl, by decide +kernel, by decide +kernel⟩
abbrev ad_check_row (K : PySem.W.Frag) : Addr := He.ga K "_check_row"
abbrev s_Table_d_init : Stmt := inClass (top 10) 0
abbrev R_Table_d_init : List Str := ["self", "rows", "place", "at", "row"]
theorem sc_Table_d_init : FnScope R_Table_d_init ["self", "rows", "place"] (defScope s_Table_d_init) := ⟨rfl, rfl, rfl, by decide +kernel, rfl, by decide +kernel, by decide +kernel⟩
abbrev ad_Table_d_init (K : PySem.W.Frag) : Addr := He.ma K (He.ga K "Table") "__init__"
abbrev s_law_same : Stmt := top 15
abbrev R_law_same : List Str := ["told", "due", "k"]
theorem sc_law_same : FnScope R_law_same ["told", "due"] (defScope s_law_same) := ⟨rfl, rfl, rfl, by decide +kernel, rfl, by decide +kernel, by decide +kernel⟩
abbrev ad_law_same (K : PySem.W.Frag) : Addr := He.ga K "_law_same"
abbrev s_Table_m_value : Stmt := inClass (top 10) 2
abbrev R_Table_m_value : List Str := ["self"]
theorem sc_Table_m_value : FnScope R_Table_m_value ["self"] (defScope s_Table_m_value) := ⟨rfl, rfl, rfl, by decide +kernel, rfl, by decide +kernel, by decide +kernel⟩
abbrev ad_Table_m_value (K : PySem.W.Frag) : Addr := He.ma K (He.ga K "Table") "value"
abbrev s_law_table_moves : Stmt := top 16
abbrev R_law_table_moves : List Str := ["rows", "place", "side", "goal"]
theorem sc_law_table_moves : FnScope R_law_table_moves ["rows", "place", "side"] (defScope s_law_table_moves) := ⟨rfl, rfl, rfl, by decide +kernel, rfl, by decide +kernel, by decide +kernel⟩
abbrev ad_law_table_moves (K : PySem.W.Frag) : Addr := He.ga K "_law_table_moves"
abbrev s_law_told : Stmt := top 17
abbrev R_law_told : List Str := ["boards", "dues", "k"]
theorem sc_law_told : FnScope R_law_told ["boards", "dues"] (defScope s_law_told) := ⟨rfl, rfl, rfl, by decide +kernel, rfl, by decide +kernel, by decide +kernel⟩
abbrev ad_law_told (K : PySem.W.Frag) : Addr := He.ga K "_law_told"
abbrev s_Table_p_moved : Stmt := inClass (top 10) 4
abbrev R_Table_p_moved : List Str := ["self", "place", "board"]
theorem sc_Table_p_moved : FnScope R_Table_p_moved ["self", "place"] (defScope s_Table_p_moved) := ⟨rfl, rfl, rfl, by decide +kernel, rfl, by decide +kernel, by decide +kernel⟩
abbrev ad_Table_p_moved (K : PySem.W.Frag) : Addr := He.ma K (He.ga K "Table") "_moved"
abbrev s_Table_m_moves : Stmt := inClass (top 10) 1
abbrev R_Table_m_moves : List Str := ["self", "side", "lefts", "rights", "places", "place"]
theorem sc_Table_m_moves : FnScope R_Table_m_moves ["self", "side"] (defScope s_Table_m_moves) := ⟨rfl, rfl, rfl, by decide +kernel, rfl, by decide +kernel, by decide +kernel⟩
abbrev ad_Table_m_moves (K : PySem.W.Frag) : Addr := He.ma K (He.ga K "Table") "moves"
abbrev s_Table_m_parts : Stmt := inClass (top 10) 3
abbrev R_Table_m_parts : List Str := ["self"]
theorem sc_Table_m_parts : FnScope R_Table_m_parts ["self"] (defScope s_Table_m_parts) := ⟨rfl, rfl, rfl, by decide +kernel, rfl, by decide +kernel, by decide +kernel⟩
abbrev ad_Table_m_parts (K : PySem.W.Frag) : Addr := He.ma K (He.ga K "Table") "parts"
abbrev s_law_asked : Stmt := top 23
abbrev R_law_asked : List Str := ["board", "rows", "place", "dues", "own"]
theorem sc_law_asked : FnScope R_law_asked ["board", "rows", "place"] (defScope s_law_asked) := ⟨rfl, rfl, rfl, by decide +kernel, rfl, by decide +kernel, by decide +kernel⟩
abbrev ad_law_asked (K : PySem.W.Frag) : Addr := He.ga K "_law_asked"
abbrev s_law_bad_rows : Stmt := top 21
abbrev R_law_bad_rows : List Str := ["rows", "at", "far", "many", "row", "bads"]
theorem sc_law_bad_rows : FnScope R_law_bad_rows ["rows", "at", "far"] (defScope s_law_bad_rows) := ⟨rfl, rfl, rfl, by decide +kernel, rfl, by decide +kernel, by decide +kernel⟩
abbrev ad_law_bad_rows (K : PySem.W.Frag) : Addr := He.ga K "_law_bad_rows"
abbrev s_law_refused : Stmt := top 18
abbrev R_law_refused : List Str := ["rows", "place", "e"]
theorem sc_law_refused : FnScope R_law_refused ["rows", "place"] (defScope s_law_refused) := ⟨rfl, rfl, rfl, by decide +kernel, rfl, by decide +kernel, by decide +kernel⟩
abbrev ad_law_refused (K : PySem.W.Frag) : Addr := He.ga K "_law_refused"
abbrev s_law_all_refused : Stmt := top 22
abbrev R_law_all_refused : List Str := ["rows", "at", "place", "far", "bad", "thing"]
theorem sc_law_all_refused : FnScope R_law_all_refused ["rows", "at", "place", "far"] (defScope s_law_all_refused) := ⟨rfl, rfl, rfl, by decide +kernel, rfl, by decide +kernel, by decide +kernel⟩
abbrev ad_law_all_refused (K : PySem.W.Frag) : Addr := He.ga K "_law_all_refused"
abbrev s_law : Stmt := top 24
abbrev R_law : List Str := ["script", "rows", "place", "passed", "board", "last", "far", "turn", "digits", "side", "dues"]
theorem sc_law : FnScope R_law ["script"] (defScope s_law) := ⟨rfl, rfl, rfl, by decide +kernel, rfl, by decide +kernel, by decide +kernel⟩
abbrev ad_law (K : PySem.W.Frag) : Addr := He.ga K "law"
structure Txt (K : PySem.W.Frag) (mg : Str → Option Value) : Prop where
  g_BadText : mg "BadText" = some (.ref (He.ga K "BadText"))
  g_BadValue : mg "BadValue" = some (.ref (He.ga K "BadValue"))
  g_NoMove : mg "NoMove" = some (.ref (He.ga K "NoMove"))
  g_PlayError : mg "PlayError" = some (.ref (He.ga K "PlayError"))
  g_Table : mg "Table" = some (.ref (He.ga K "Table"))
  g_Unknown : mg "Unknown" = some (.ref (He.ga K "Unknown"))
  g__check_row : mg "_check_row" = some (.ref (He.ga K "_check_row"))
  g__law_all_refused : mg "_law_all_refused" = some (.ref (He.ga K "_law_all_refused"))
  g__law_asked : mg "_law_asked" = some (.ref (He.ga K "_law_asked"))
  g__law_bad_rows : mg "_law_bad_rows" = some (.ref (He.ga K "_law_bad_rows"))
  g__law_cell : mg "_law_cell" = some (.ref (He.ga K "_law_cell"))
  g__law_digits : mg "_law_digits" = some (.ref (He.ga K "_law_digits"))
  g__law_goals : mg "_law_goals" = some (.ref (He.ga K "_law_goals"))
  g__law_refused : mg "_law_refused" = some (.ref (He.ga K "_law_refused"))
  g__law_rows : mg "_law_rows" = some (.ref (He.ga K "_law_rows"))
  g__law_same : mg "_law_same" = some (.ref (He.ga K "_law_same"))
  g__law_table_moves : mg "_law_table_moves" = some (.ref (He.ga K "_law_table_moves"))
  g__law_told : mg "_law_told" = some (.ref (He.ga K "_law_told"))
  g_is_whole : mg "is_whole" = some (.ref (He.ga K "is_whole"))
  g_law : mg "law" = some (.ref (He.ga K "law"))
  z_ValueError : mg "ValueError" = none
  z_bool : mg "bool" = none
  z_enumerate : mg "enumerate" = none
  z_int : mg "int" = none
  z_isinstance : mg "isinstance" = none
  z_len : mg "len" = none
  z_list : mg "list" = none
  z_range : mg "range" = none
  z_str : mg "str" = none
  z_tuple : mg "tuple" = none
  z_type : mg "type" = none
  c_MOST_ROWS : ∃ t, mg "MOST_ROWS" = some (.int (40) t)
  cl_Table : Cls K (He.ga K "Table")
  x_BadValue : PySem.W.excIn K (He.ga K "BadValue") He.veBase "ValueError.__new__" = true ∧ PySem.W.keepIn K (.ref (He.ga K "BadValue")) = true ∧ PySem.W.subIn K (.ref (He.ga K "BadValue")) (.type "BaseException") = some true ∧ PySem.W.typeIn K (.ref (He.ga K "BadValue")) = some (.type "type")
  xc_BadValue : ExcC K (He.ga K "BadValue")
  em_BadValue_PlayError : PySem.W.exmOne K (.ref (He.ga K "BadValue")) (.ref (He.ga K "PlayError")) = some true
  ic_Table : C8.InsC K (He.ga K "Table")
  ki_BadValue_BadText : PySem.W.kitOne K (.ref (He.ga K "BadValue")) (.ref (He.ga K "BadText")) = some false
  ki_BadValue_BadValue : PySem.W.kitOne K (.ref (He.ga K "BadValue")) (.ref (He.ga K "BadValue")) = some true
  ki_BadValue_NoMove : PySem.W.kitOne K (.ref (He.ga K "BadValue")) (.ref (He.ga K "NoMove")) = some false
  ki_BadValue_Unknown : PySem.W.kitOne K (.ref (He.ga K "BadValue")) (.ref (He.ga K "Unknown")) = some false
  ki_BadValue_ValueError : PySem.W.kitOne K (.ref (He.ga K "BadValue")) (.type "ValueError") = some true
  mt_Table__moved : Meth K (He.ga K "Table") "_moved" (He.ma K (He.ga K "Table") "_moved")
  mt_Table_moves : Meth K (He.ga K "Table") "moves" (He.ma K (He.ga K "Table") "moves")
  mt_Table_parts : Meth K (He.ga K "Table") "parts" (He.ma K (He.ga K "Table") "parts")
  mt_Table_value : Meth K (He.ga K "Table") "value" (He.ma K (He.ga K "Table") "value")
  mk_Table : Mk K (He.ga K "Table") (He.ma K (He.ga K "Table") "__init__")
  na_Table__place : NoAttr K (He.ga K "Table") "_place"
  na_Table__rows : NoAttr K (He.ga K "Table") "_rows"
  d_law_digits : ∃ fd, FunD K "_law_digits" "_law_digits" (defArgs s_law_digits) (defBody s_law_digits) (defScope s_law_digits) [] [] (ad_law_digits K) fd
  d_law_cell : ∃ fd, FunD K "_law_cell" "_law_cell" (defArgs s_law_cell) (defBody s_law_cell) (defScope s_law_cell) [] [] (ad_law_cell K) fd
  d_law_goals : ∃ fd, FunD K "_law_goals" "_law_goals" (defArgs s_law_goals) (defBody s_law_goals) (defScope s_law_goals) [] [] (ad_law_goals K) fd
  d_law_rows : ∃ fd, FunD K "_law_rows" "_law_rows" (defArgs s_law_rows) (defBody s_law_rows) (defScope s_law_rows) [] [] (ad_law_rows K) fd
  d_is_whole : ∃ fd, FunD K "is_whole" "is_whole" (defArgs s_is_whole) (defBody s_is_whole) (defScope s_is_whole) [] [] (ad_is_whole K) fd
  d_check_row : ∃ fd, FunD K "_check_row" "_check_row" (defArgs s_check_row) (defBody s_check_row) (defScope s_check_row) [] [] (ad_check_row K) fd
  d_Table_d_init : ∃ fd, FunD K "__init__" "Table.__init__" (defArgs s_Table_d_init) (defBody s_Table_d_init) (defScope s_Table_d_init) [] [] (ad_Table_d_init K) fd
  d_law_same : ∃ fd, FunD K "_law_same" "_law_same" (defArgs s_law_same) (defBody s_law_same) (defScope s_law_same) [] [] (ad_law_same K) fd
  d_Table_m_value : ∃ fd, FunD K "value" "Table.value" (defArgs s_Table_m_value) (defBody s_Table_m_value) (defScope s_Table_m_value) [] [] (ad_Table_m_value K) fd
  d_law_table_moves : ∃ fd, FunD K "_law_table_moves" "_law_table_moves" (defArgs s_law_table_moves) (defBody s_law_table_moves) (defScope s_law_table_moves) [] [] (ad_law_table_moves K) fd
  d_law_told : ∃ fd, FunD K "_law_told" "_law_told" (defArgs s_law_told) (defBody s_law_told) (defScope s_law_told) [] [] (ad_law_told K) fd
  d_Table_p_moved : ∃ fd, FunD K "_moved" "Table._moved" (defArgs s_Table_p_moved) (defBody s_Table_p_moved) (defScope s_Table_p_moved) [] [] (ad_Table_p_moved K) fd
  d_Table_m_moves : ∃ fd, FunD K "moves" "Table.moves" (defArgs s_Table_m_moves) (defBody s_Table_m_moves) (defScope s_Table_m_moves) [] [] (ad_Table_m_moves K) fd
  d_Table_m_parts : ∃ fd, FunD K "parts" "Table.parts" (defArgs s_Table_m_parts) (defBody s_Table_m_parts) (defScope s_Table_m_parts) [] [] (ad_Table_m_parts K) fd
  d_law_asked : ∃ fd, FunD K "_law_asked" "_law_asked" (defArgs s_law_asked) (defBody s_law_asked) (defScope s_law_asked) [] [] (ad_law_asked K) fd
  d_law_bad_rows : ∃ fd, FunD K "_law_bad_rows" "_law_bad_rows" (defArgs s_law_bad_rows) (defBody s_law_bad_rows) (defScope s_law_bad_rows) [] [] (ad_law_bad_rows K) fd
  d_law_refused : ∃ fd, FunD K "_law_refused" "_law_refused" (defArgs s_law_refused) (defBody s_law_refused) (defScope s_law_refused) [] [] (ad_law_refused K) fd
  d_law_all_refused : ∃ fd, FunD K "_law_all_refused" "_law_all_refused" (defArgs s_law_all_refused) (defBody s_law_all_refused) (defScope s_law_all_refused) [] [] (ad_law_all_refused K) fd
  d_law : ∃ fd, FunD K "law" "law" (defArgs s_law) (defBody s_law) (defScope s_law) [] [] (ad_law K) fd
theorem Txt.FBadValue {K : PySem.W.Frag} {mg : Str → Option Value} (T : Txt K mg) : FBadValue K := ⟨T.em_BadValue_PlayError, T.ki_BadValue_BadText, T.ki_BadValue_NoMove, T.ki_BadValue_Unknown, T.ki_BadValue_BadValue, T.ki_BadValue_ValueError⟩
theorem Txt.FTable {K : PySem.W.Frag} {mg : Str → Option Value} (T : Txt K mg) : FTable K := ⟨T.cl_Table, T.na_Table__place, T.na_Table__rows⟩
abbrev O_law_digits (P : Program) (w : World) (K : PySem.W.Frag) (mg : Str → Option Value) (base : Heap) : Prop := DefOk P w K mg base CX0 1 "_law_digits" "_law_digits" s_law_digits [] (ad_law_digits K) ["cell", "count"] (sp_law_digits K)
abbrev O_law_cell (P : Program) (w : World) (K : PySem.W.Frag) (mg : Str → Option Value) (base : Heap) : Prop := DefOk P w K mg base CX0 1 "_law_cell" "_law_cell" s_law_cell [] (ad_law_cell K) ["script", "k"] (sp_law_cell K)
abbrev O_law_goals (P : Program) (w : World) (K : PySem.W.Frag) (mg : Str → Option Value) (base : Heap) : Prop := DefOk P w K mg base CX0 1 "_law_goals" "_law_goals" s_law_goals [] (ad_law_goals K) ["digits", "place", "many"] (sp_law_goals K)
abbrev O_law_rows (P : Program) (w : World) (K : PySem.W.Frag) (mg : Str → Option Value) (base : Heap) : Prop := DefOk P w K mg base CX0 2 "_law_rows" "_law_rows" s_law_rows [] (ad_law_rows K) ["script", "first", "cell"] (sp_law_rows K)
abbrev O_is_whole (P : Program) (w : World) (K : PySem.W.Frag) (mg : Str → Option Value) (base : Heap) : Prop := DefOk P w K mg base CX0 1 "is_whole" "is_whole" s_is_whole [] (ad_is_whole K) ["thing", "least", "most"] (sp_is_whole K)
abbrev O_check_row (P : Program) (w : World) (K : PySem.W.Frag) (mg : Str → Option Value) (base : Heap) : Prop := DefOk P w K mg base (L2.CX P w) 2 "_check_row" "_check_row" s_check_row [] (ad_check_row K) ["row", "at", "count"] (sp_check_row K)
abbrev O_Table_d_init (P : Program) (w : World) (K : PySem.W.Frag) (mg : Str → Option Value) (base : Heap) : Prop := DefOk P w K mg base (L2.CX P w) 3 "__init__" "Table.__init__" s_Table_d_init [] (ad_Table_d_init K) ["self", "rows", "place"] (sp_Table_d_init K)
abbrev O_law_same (P : Program) (w : World) (K : PySem.W.Frag) (mg : Str → Option Value) (base : Heap) : Prop := DefOk P w K mg base CX0 7 "_law_same" "_law_same" s_law_same [] (ad_law_same K) ["told", "due"] (sp_law_same K 6)
abbrev O_Table_m_value (P : Program) (w : World) (K : PySem.W.Frag) (mg : Str → Option Value) (base : Heap) : Prop := DefOk P w K mg base CX0 1 "value" "Table.value" s_Table_m_value [] (ad_Table_m_value K) ["self"] (sp_Table_m_value K)
abbrev O_law_table_moves (P : Program) (w : World) (K : PySem.W.Frag) (mg : Str → Option Value) (base : Heap) : Prop := DefOk P w K mg base CX0 1 "_law_table_moves" "_law_table_moves" s_law_table_moves [] (ad_law_table_moves K) ["rows", "place", "side"] (sp_law_table_moves K)
abbrev O_law_told (P : Program) (w : World) (K : PySem.W.Frag) (mg : Str → Option Value) (base : Heap) : Prop := DefOk P w K mg base CX0 8 "_law_told" "_law_told" s_law_told [] (ad_law_told K) ["boards", "dues"] (sp_law_told K)
abbrev O_Table_p_moved (P : Program) (w : World) (K : PySem.W.Frag) (mg : Str → Option Value) (base : Heap) : Prop := DefOk P w K mg base CX0 5 "_moved" "Table._moved" s_Table_p_moved [] (ad_Table_p_moved K) ["self", "place"] (sp_Table_p_moved K)
abbrev O_Table_m_moves (P : Program) (w : World) (K : PySem.W.Frag) (mg : Str → Option Value) (base : Heap) : Prop := DefOk P w K mg base CX0 6 "moves" "Table.moves" s_Table_m_moves [] (ad_Table_m_moves K) ["self", "side"] (sp_Table_m_moves K)
abbrev O_Table_m_parts (P : Program) (w : World) (K : PySem.W.Frag) (mg : Str → Option Value) (base : Heap) : Prop := DefOk P w K mg base CX0 1 "parts" "Table.parts" s_Table_m_parts [] (ad_Table_m_parts K) ["self"] (sp_Table_m_parts K)
abbrev O_law_asked (P : Program) (w : World) (K : PySem.W.Frag) (mg : Str → Option Value) (base : Heap) : Prop := DefOk P w K mg base CX0 9 "_law_asked" "_law_asked" s_law_asked [] (ad_law_asked K) ["board", "rows", "place"] (sp_law_asked K)
abbrev O_law_bad_rows (P : Program) (w : World) (K : PySem.W.Frag) (mg : Str → Option Value) (base : Heap) : Prop := DefOk P w K mg base CX0 1 "_law_bad_rows" "_law_bad_rows" s_law_bad_rows [] (ad_law_bad_rows K) ["rows", "at", "far"] (sp_law_bad_rows K)
abbrev O_law_refused (P : Program) (w : World) (K : PySem.W.Frag) (mg : Str → Option Value) (base : Heap) : Prop := DefOk P w K mg base CX0 5 "_law_refused" "_law_refused" s_law_refused [] (ad_law_refused K) ["rows", "place"] (sp_law_refused K)
abbrev O_law_all_refused (P : Program) (w : World) (K : PySem.W.Frag) (mg : Str → Option Value) (base : Heap) : Prop := DefOk P w K mg base CX0 6 "_law_all_refused" "_law_all_refused" s_law_all_refused [] (ad_law_all_refused K) ["rows", "at", "place", "far"] (sp_law_all_refused K)
abbrev O_law (P : Program) (w : World) (K : PySem.W.Frag) (mg : Str → Option Value) (base : Heap) : Prop := DefOk P w K mg base CX0 10 "law" "law" s_law [] (ad_law K) ["script"] (sp_law K)
theorem ok_law_digits {P : Program} {w : World} {K : PySem.W.Frag} {mg : Str → Option Value} {base : Heap} (T : Txt K mg)  : O_law_digits P w K mg base := by
  obtain ⟨fd, X⟩ := T.d_law_digits
  refine ⟨fd, X, X.ok sc_law_digits (fun vs H Q E h => len_law_digits h) (fun cdv A outer s H vs Q E hr h => ⟨t_law_digits K E, PSs.nox ?_, pure_law_digits vs H Q E h⟩)⟩
  exact (pss_cons (ps_set (i := 2) sc_law_digits.nd rfl (Or.inl rfl) (pe_lst pa_nil))
      (pss_cons (ps_if (pt_cmpR op_ge (pv 0) (pe_op op_pow pe_int pe_int) (nomark _)) (pss_cons (ps_for PassesOwn.never rfl (pi_range1 rfl T.z_range (pa_cons (pv 1) pa_nil)) (pg_name (i := 3) sc_law_digits.nd rfl (Or.inl rfl))
      (pss_cons (ps_expr (pe_bm PySem.F.plainAttrs_list PySem.F.slot_list_append PySem.F.type_list_append mt_append (pv 2) (pa_cons (pe_op op_mod (pe_callTy cr_intI rfl T.z_int (by decide +kernel) (pa_cons (pv 0) pa_nil)) pe_int) pa_nil)))
      (pss_one (ps_set (i := 0) sc_law_digits.nd rfl (Or.inl rfl) (pe_op op_fdiv (pv 0) pe_int)))))
      (pss_one (ps_ret (pv 2)))) pss_nil)
      (pss_cons (ps_set (i := 4) sc_law_digits.nd rfl (Or.inl rfl) (pe_op op_mod (pe_callTy cr_intI rfl T.z_int (by decide +kernel) (pa_cons (pe_op op_add (pe_op op_mul (pv 0) pe_int) pe_int) pa_nil)) pe_int))
      (pss_cons (ps_for PassesOwn.never rfl (pi_range1 rfl T.z_range (pa_cons (pv 1) pa_nil)) (pg_name (i := 3) sc_law_digits.nd rfl (Or.inl rfl))
      (pss_cons (ps_set (i := 4) sc_law_digits.nd rfl (Or.inl rfl) (pe_op op_mod (pe_callTy cr_intI rfl T.z_int (by decide +kernel) (pa_cons (pe_op op_add (pe_op op_add (pe_op op_mul (pv 4) pe_int) (pe_op op_mul pe_int (pv 3))) pe_int) pa_nil)) pe_int))
      (pss_one (ps_expr (pe_bm PySem.F.plainAttrs_list PySem.F.slot_list_append PySem.F.type_list_append mt_append (pv 2) (pa_cons (pe_op op_mod (pe_callTy cr_intI rfl T.z_int (by decide +kernel) (pa_cons (pe_op op_fdiv (pv 4) pe_int) pa_nil)) pe_int) pa_nil))))))
      (pss_one (ps_ret (pv 2)))))))
theorem ok_law_cell {P : Program} {w : World} {K : PySem.W.Frag} {mg : Str → Option Value} {base : Heap} (T : Txt K mg)  : O_law_cell P w K mg base := by
  obtain ⟨fd, X⟩ := T.d_law_cell
  refine ⟨fd, X, X.ok sc_law_cell (fun vs H Q E h => len_law_cell h) (fun cdv A outer s H vs Q E hr h => ⟨t_law_cell K E, PSs.nox ?_, pure_law_cell vs H Q E h⟩)⟩
  exact (pss_cons (ps_if (pt_cmpR op_lt (pv 1) (pe_callB cr_lenQ rfl T.z_len (by decide +kernel) (pa_cons (pv 0) pa_nil)) (nomark _)) (pss_one (ps_ret (pe_ix ix_list (pv 0) (pv 1) (fun _ _ => rfl)))) pss_nil)
      (pss_cons (ps_set (i := 2) sc_law_cell.nd rfl (Or.inl rfl) (pe_op op_add (pe_op op_mul pe_int (pv 1)) pe_int))
      (pss_cons (ps_for PassesOwn.never rfl (pi_list (pv 0)) (pg_name (i := 3) sc_law_cell.nd rfl (Or.inl rfl))
      (pss_one (ps_set (i := 2) sc_law_cell.nd rfl (Or.inl rfl) (pe_op op_mod (pe_callTy cr_intI rfl T.z_int (by decide +kernel) (pa_cons (pe_op op_add (pe_op op_mul (pv 2) pe_int) (pv 3)) pa_nil)) pe_int))))
      (pss_one (ps_ret (pv 2))))))
theorem ok_law_goals {P : Program} {w : World} {K : PySem.W.Frag} {mg : Str → Option Value} {base : Heap} (T : Txt K mg)  : O_law_goals P w K mg base := by
  obtain ⟨fd, X⟩ := T.d_law_goals
  refine ⟨fd, X, X.ok sc_law_goals (fun vs H Q E h => len_law_goals h) (fun cdv A outer s H vs Q E hr h => ⟨t_law_goals K E, PSs.nox ?_, pure_law_goals vs H Q E h⟩)⟩
  exact (pss_cons (ps_if (pt_cmpR op_eq (pv 1) (pe_op op_sub (pv 2) pe_int) (nomark _)) (pss_one (ps_ret (pe_tup pa_nil))) pss_nil)
      (pss_cons (ps_asg (pe_lc (own := [("k", 4)]) (g := (gName 4)) (tt := tYes) rfl sc_law_goals.nd (pi_range1 rfl T.z_range (pa_cons (pe_op op_mod (pe_callTy cr_intI rfl T.z_int (by decide +kernel) (pa_cons (pe_ix ix_list (pv 0) pe_int (fun _ _ => rfl)) pa_nil)) pe_int) pa_nil)) (blkOk_by (N := R_law_goals) (sc := defScope s_law_goals) (by decide +kernel)) (fun _ _ _ _ _ => (pg_name (i := 4) sc_law_goals.nd rfl (Or.inl rfl))) (fun _ _ _ _ _ => pts_nil) (fun _ _ _ _ _ => (pe_op op_add (pe_op op_add (pv 1) pe_int) (pe_op op_mod (pe_callTy cr_intI rfl T.z_int (by decide +kernel) (pa_cons (pe_ix ix_list (pv 0) (pe_op op_add pe_int (pv 4)) (fun _ _ => rfl)) pa_nil)) (pe_op op_sub (pe_op op_sub (pv 2) (pv 1)) pe_int))))) (pg_name (i := 3) sc_law_goals.nd rfl (Or.inr rfl)))
      (pss_one (ps_ret (pe_callTy cr_tupL rfl T.z_tuple (by decide +kernel) (pa_cons (pe_lc (own := [("goal", 5)]) (g := (gName 5)) (tt := (tTest (tOp (rIn K false) (tVar 5) (tVar 3)))) rfl sc_law_goals.nd (pi_range2 rfl T.z_range (pa_cons (pe_op op_add (pv 1) pe_int) (pa_cons (pv 2) pa_nil))) (blkOk_by (N := R_law_goals) (sc := defScope s_law_goals) (by decide +kernel)) (fun _ _ _ _ _ => (pg_name (i := 5) sc_law_goals.nd rfl (Or.inl rfl))) (fun _ _ _ _ _ => (pts_one (pt_cmpR op_in_seq (pv 5) (pv 3) (by rfl)))) (fun _ _ _ _ _ => (pv 5))) pa_nil))))))
theorem ok_law_rows {P : Program} {w : World} {K : PySem.W.Frag} {mg : Str → Option Value} {base : Heap} (T : Txt K mg) (D_law_digits : O_law_digits P w K mg base) (D_law_cell : O_law_cell P w K mg base) (D_law_goals : O_law_goals P w K mg base) : O_law_rows P w K mg base := by
  obtain ⟨fd_law_digits, X_law_digits, G_law_digits⟩ := D_law_digits.ex
  have K_law_digits := X_law_digits.kp
  have B_law_digits := X_law_digits.bindsN (ps := ["cell", "count"]) fun _ _ _ _ _ _ us hl => match us, hl with | [_, _], _ => rfl
  have V_law_digits : Vals [] [] := .nil
  obtain ⟨fd_law_cell, X_law_cell, G_law_cell⟩ := D_law_cell.ex
  have K_law_cell := X_law_cell.kp
  have B_law_cell := X_law_cell.bindsN (ps := ["script", "k"]) fun _ _ _ _ _ _ us hl => match us, hl with | [_, _], _ => rfl
  have V_law_cell : Vals [] [] := .nil
  obtain ⟨fd_law_goals, X_law_goals, G_law_goals⟩ := D_law_goals.ex
  have K_law_goals := X_law_goals.kp
  have B_law_goals := X_law_goals.bindsN (ps := ["digits", "place", "many"]) fun _ _ _ _ _ _ us hl => match us, hl with | [_, _, _], _ => rfl
  have V_law_goals : Vals [] [] := .nil
  obtain ⟨fd, X⟩ := T.d_law_rows
  refine ⟨fd, X, X.ok sc_law_rows (fun vs H Q E h => len_law_rows h) (fun cdv A outer s H vs Q E hr h => ⟨t_law_rows K E, PSs.nox ?_, pure_law_rows vs H Q E h⟩)⟩
  exact (pss_cons (ps_set (i := 3) sc_law_rows.nd rfl (Or.inl rfl) (pe_op op_add pe_int (pe_op op_mod (pe_callTy cr_intI rfl T.z_int (by decide +kernel) (pa_cons (pv 2) pa_nil)) pe_int)))
      (pss_cons (ps_set (i := 4) sc_law_rows.nd rfl (Or.inl rfl) (pe_lst pa_nil))
      (pss_cons (ps_for PassesOwn.never rfl (pi_range1 rfl T.z_range (pa_cons (pv 3) pa_nil)) (pg_name (i := 5) sc_law_rows.nd rfl (Or.inl rfl))
      (pss_cons (ps_set (i := 6) sc_law_rows.nd rfl (Or.inl rfl) (pe_call G_law_digits (hr.mono (by decide)) rfl T.g__law_digits K_law_digits B_law_digits V_law_digits pass0 (pa_cons (pe_call G_law_cell (hr.mono (by decide)) rfl T.g__law_cell K_law_cell B_law_cell V_law_cell pass0 (pa_cons (pv 0) (pa_cons (pe_op op_add (pv 1) (pv 5)) pa_nil))) (pa_cons pe_int pa_nil))))
      (pss_one (ps_expr (pe_bm PySem.F.plainAttrs_list PySem.F.slot_list_append PySem.F.type_list_append mt_append (pv 4) (pa_cons (pe_tup (pa_cons (pe_call G_law_goals (hr.mono (by decide)) rfl T.g__law_goals K_law_goals B_law_goals V_law_goals pass0 (pa_cons (pv 6) (pa_cons (pv 5) (pa_cons (pv 3) pa_nil)))) (pa_cons (pe_call G_law_goals (hr.mono (by decide)) rfl T.g__law_goals K_law_goals B_law_goals V_law_goals pass0 (pa_cons (pe_slice sl_list (pv 6) (po_some pe_int) po_none) (pa_cons (pv 5) (pa_cons (pv 3) pa_nil)))) pa_nil))) pa_nil))))))
      (pss_one (ps_ret (pv 4))))))
theorem ok_is_whole {P : Program} {w : World} {K : PySem.W.Frag} {mg : Str → Option Value} {base : Heap} (T : Txt K mg)  : O_is_whole P w K mg base := by
  obtain ⟨fd, X⟩ := T.d_is_whole
  refine ⟨fd, X, X.ok sc_is_whole (fun vs H Q E h => len_is_whole h) (fun cdv A outer s H vs Q E hr h => ⟨t_is_whole K E, PSs.nox ?_, pure_is_whole vs H Q E h⟩)⟩
  exact (pss_one (ps_ret (pe_and (pe_cmpR op_isTyB (pe_callTy call_type1 rfl T.z_type (by decide +kernel) (pa_cons (pv 0) pa_nil)) (pe_bltn rfl T.z_int (by decide +kernel) rfl) (nomark _)) (pe_one (pe_chain op_le op_le (pv 1) (pv 0) (pv 2))))))
theorem ok_check_row {P : Program} {w : World} {K : PySem.W.Frag} {mg : Str → Option Value} {base : Heap} (T : Txt K mg) (D_is_whole : O_is_whole P w K mg base) : O_check_row P w K mg base := by
  obtain ⟨fd_is_whole, X_is_whole, G_is_whole⟩ := D_is_whole.ex
  have K_is_whole := X_is_whole.kp
  have B_is_whole := X_is_whole.bindsN (ps := ["thing", "least", "most"]) fun _ _ _ _ _ _ us hl => match us, hl with | [_, _, _], _ => rfl
  have V_is_whole : Vals [] [] := .nil
  obtain ⟨fd, X⟩ := T.d_check_row
  refine ⟨fd, X, X.ok sc_check_row (fun vs H Q E h => len_check_row h) (fun cdv A outer s H vs Q E hr h => ⟨t_check_row K E, ?_, pure_check_row vs H Q E h⟩)⟩
  exact (pss_cons (ps_if (PW.pt (pw_or (pt_cmpR op_notTyB (pe_callTy call_type1 rfl T.z_type (by decide +kernel) (pa_cons (pv 0) pa_nil)) (pe_bltn rfl T.z_tuple (by decide +kernel) rfl) (nomark _)) (pw_or1 (pt_cmpR op_ne (pe_callB cr_lenQ rfl T.z_len (by decide +kernel) (pa_cons (pv 0) pa_nil)) pe_int (nomark _))))) (pss_one (ps_raise rfl (takes_of rfl rfl rfl rfl) (pmk_own PySem.F.excBase_ValueError T.x_BadValue.1 T.g_BadValue T.x_BadValue.2.1 (raises_own T.x_BadValue.2.2.1 T.x_BadValue.2.2.2) (by exact rfl)))) pss_nil)
      (pss_one (ps_for (passes_of rfl) rfl (pi_tup (pv 0)) (pg_name (i := 3) sc_check_row.nd rfl (Or.inl rfl))
      (pss_cons (ps_if (pt_cmpR op_notTyB (pe_callTy call_type1 rfl T.z_type (by decide +kernel) (pa_cons (pv 3) pa_nil)) (pe_bltn rfl T.z_tuple (by decide +kernel) rfl) (nomark _)) (pss_one (ps_raise rfl (takes_of rfl rfl rfl rfl) (pmk_own PySem.F.excBase_ValueError T.x_BadValue.1 T.g_BadValue T.x_BadValue.2.1 (raises_own T.x_BadValue.2.2.1 T.x_BadValue.2.2.2) (by exact rfl)))) pss_nil)
      (pss_cons (ps_set (i := 4) sc_check_row.nd rfl (Or.inl rfl) (pe_op op_add (pv 1) pe_int))
      (pss_one (ps_for (passes_of rfl) rfl (pi_tup (pv 3)) (pg_name (i := 5) sc_check_row.nd rfl (Or.inl rfl))
      (pss_cons (ps_if (pt_not (pt_val (pe_call G_is_whole (hr.mono (by decide)) rfl T.g_is_whole K_is_whole B_is_whole V_is_whole pass0 (pa_cons (pv 5) (pa_cons (pv 4) (pa_cons (pe_op op_sub (pv 2) pe_int) pa_nil)))))) (pss_one (ps_raise rfl (takes_of rfl rfl rfl rfl) (pmk_own PySem.F.excBase_ValueError T.x_BadValue.1 T.g_BadValue T.x_BadValue.2.1 (raises_own T.x_BadValue.2.2.1 T.x_BadValue.2.2.2) (by exact rfl)))) pss_nil)
      (pss_one (ps_set (i := 4) sc_check_row.nd rfl (Or.inl rfl) (pe_op op_add (pv 5) pe_int)))))))))))
theorem ok_Table_d_init {P : Program} {w : World} {K : PySem.W.Frag} {mg : Str → Option Value} {base : Heap} (T : Txt K mg) (D_check_row : O_check_row P w K mg base) (D_is_whole : O_is_whole P w K mg base) : O_Table_d_init P w K mg base := by
  obtain ⟨fd_check_row, X_check_row, G_check_row⟩ := D_check_row.ex
  have K_check_row := X_check_row.kp
  have B_check_row := X_check_row.bindsN (ps := ["row", "at", "count"]) fun _ _ _ _ _ _ us hl => match us, hl with | [_, _, _], _ => rfl
  have V_check_row : Vals [] [] := .nil
  obtain ⟨fd_is_whole, X_is_whole, G_is_whole⟩ := D_is_whole.ex
  have K_is_whole := X_is_whole.kp
  have B_is_whole := X_is_whole.bindsN (ps := ["thing", "least", "most"]) fun _ _ _ _ _ _ us hl => match us, hl with | [_, _, _], _ => rfl
  have V_is_whole : Vals [] [] := .nil
  obtain ⟨fd, X⟩ := T.d_Table_d_init
  refine ⟨fd, X, X.ok sc_Table_d_init (fun vs H Q E h => len_Table_d_init h) (fun cdv A outer s H vs Q E hr h => ⟨t_Table_d_init K E, ?_, pure_Table_d_init T.FTable vs H Q E h⟩)⟩
  exact (pss_cons (ps_if (PW.pt (pw_or (pt_cmpR op_notTyB (pe_callTy call_type1 rfl T.z_type (by decide +kernel) (pa_cons (pv 1) pa_nil)) (pe_bltn rfl T.z_list (by decide +kernel) rfl) (nomark _)) (pw_or1 (pt_not (pt_chain op_le op_le pe_int (pe_callB cr_lenQ rfl T.z_len (by decide +kernel) (pa_cons (pv 1) pa_nil)) (C8.pe_gc rfl (cst_ok T.c_MOST_ROWS))))))) (pss_one (ps_raise rfl (takes_of rfl rfl rfl rfl) (pmk_own PySem.F.excBase_ValueError T.x_BadValue.1 T.g_BadValue T.x_BadValue.2.1 (raises_own T.x_BadValue.2.2.1 T.x_BadValue.2.2.2) (by exact rfl)))) pss_nil)
      (pss_cons (ps_for (passes_of rfl) rfl (pi_enum rfl T.z_enumerate (pa_cons (pv 1) pa_nil)) (pg_tup rfl (pgs_cons (pg_name (i := 3) sc_Table_d_init.nd rfl (Or.inl rfl)) (pgs_cons (pg_name (i := 4) sc_Table_d_init.nd rfl (Or.inl rfl)) pgs_nil)))
      (pss_one (ps_expr (pe_call G_check_row (hr.mono (by decide)) rfl T.g__check_row K_check_row B_check_row V_check_row (passes_call (takes_of rfl rfl rfl rfl) fun _ _ _ _ z => z) (pa_cons (pv 4) (pa_cons (pv 3) (pa_cons (pe_callB cr_lenQ rfl T.z_len (by decide +kernel) (pa_cons (pv 1) pa_nil)) pa_nil)))))))
      (pss_cons (ps_if (pt_not (pt_val (pe_call G_is_whole (hr.mono (by decide)) rfl T.g_is_whole K_is_whole B_is_whole V_is_whole pass0 (pa_cons (pv 2) (pa_cons pe_int (pa_cons (pe_op op_sub (pe_callB cr_lenQ rfl T.z_len (by decide +kernel) (pa_cons (pv 1) pa_nil)) pe_int) pa_nil)))))) (pss_one (ps_raise rfl (takes_of rfl rfl rfl rfl) (pmk_own PySem.F.excBase_ValueError T.x_BadValue.1 T.g_BadValue T.x_BadValue.2.1 (raises_own T.x_BadValue.2.2.1 T.x_BadValue.2.2.2) (by exact rfl)))) pss_nil)
      (pss_cons (ps_fld (pv 0) (pe_callTy cr_tupL rfl T.z_tuple (by decide +kernel) (pa_cons (pv 1) pa_nil)) rfl)
      (pss_one (ps_fld (pv 0) (pv 2) rfl))))))
theorem ok_law_same {P : Program} {w : World} {K : PySem.W.Frag} {mg : Str → Option Value} {base : Heap} (T : Txt K mg)  : O_law_same P w K mg base := by
  obtain ⟨fd, X⟩ := T.d_law_same
  have all : ∀ n : Nat, FnOk P w K mg base CX0 (n + 1) (ad_law_same K) fd ["told", "due"] (sp_law_same K n) := by
    intro n
    induction n with
    | zero => exact X.ok sc_law_same (fun vs H Q E h => len_law_same h) (fun cdv A outer s H vs Q E hr h => absurd h no_law_same)
    | succ n G_law_same =>
      have K_law_same := X.kp
      have V_law_same : Vals [] [] := .nil
      have B_law_same := X.bindsN (ps := ["told", "due"]) fun _ _ _ _ _ _ us hl => match us, hl with | [_, _], _ => rfl
      refine X.ok (k := (n + 1) + 0) sc_law_same (fun vs H Q E h => len_law_same h) (fun cdv A outer s H vs Q E hr h => ⟨t_law_same K n E, PSs.nox ?_, pure_law_same n vs H Q E h⟩)
      exact (pss_cons (ps_if (pt_val (pe_callB call_isi rfl T.z_isinstance (by decide +kernel) (pa_cons (pv 1) (pa_cons (pe_bltn rfl T.z_tuple (by decide +kernel) rfl) pa_nil)))) (pss_cons (ps_if (PW.pt (pw_or (pt_not (pt_val (pe_callB call_isi rfl T.z_isinstance (by decide +kernel) (pa_cons (pv 0) (pa_cons (pe_bltn rfl T.z_tuple (by decide +kernel) rfl) pa_nil))))) (pw_or1 (pt_cmpR op_ne (pe_callB cr_lenQ rfl T.z_len (by decide +kernel) (pa_cons (pv 0) pa_nil)) (pe_callB cr_lenQ rfl T.z_len (by decide +kernel) (pa_cons (pv 1) pa_nil)) (nomark _))))) (pss_one (ps_ret pe_bl)) pss_nil)
      (pss_cons (ps_for PassesOwn.never rfl (pi_range1 rfl T.z_range (pa_cons (pe_callB cr_lenQ rfl T.z_len (by decide +kernel) (pa_cons (pv 1) pa_nil)) pa_nil)) (pg_name (i := 2) sc_law_same.nd rfl (Or.inl rfl))
      (pss_one (ps_if (pt_not (pt_val (pe_call G_law_same (hr.mono (by omega)) rfl T.g__law_same K_law_same B_law_same V_law_same pass0 (pa_cons (pe_ix ix_tup (pv 0) (pv 2) (fun _ _ => rfl)) (pa_cons (pe_ix ix_tup (pv 1) (pv 2) (fun _ _ => rfl)) pa_nil))))) (pss_one (ps_ret pe_bl)) pss_nil)))
      (pss_one (ps_ret pe_bl)))) pss_nil)
      (pss_cons (ps_if (pt_val (pe_callB call_isi rfl T.z_isinstance (by decide +kernel) (pa_cons (pv 1) (pa_cons (pe_bltn rfl T.z_str (by decide +kernel) rfl) pa_nil)))) (pss_one (ps_ret (pe_and (pe_callB call_isi rfl T.z_isinstance (by decide +kernel) (pa_cons (pv 0) (pa_cons (pe_bltn rfl T.z_str (by decide +kernel) rfl) pa_nil))) (pe_one (pe_cmpR (op_eqD hr.units) (pv 0) (pv 1) (nomark _)))))) pss_nil)
      (pss_one (ps_ret (pe_and (pe_callB call_isi rfl T.z_isinstance (by decide +kernel) (pa_cons (pv 0) (pa_cons (pe_bltn rfl T.z_int (by decide +kernel) rfl) pa_nil))) (pe_and (pe_not (pe_callB call_isi rfl T.z_isinstance (by decide +kernel) (pa_cons (pv 0) (pa_cons (pe_bltn rfl T.z_bool (by decide +kernel) rfl) pa_nil)))) (pe_one (pe_cmpR (op_eqD hr.units) (pv 0) (pv 1) (nomark _)))))))))
  exact ⟨fd, X, all 6⟩
theorem ok_Table_m_value {P : Program} {w : World} {K : PySem.W.Frag} {mg : Str → Option Value} {base : Heap} (T : Txt K mg)  : O_Table_m_value P w K mg base := by
  obtain ⟨fd, X⟩ := T.d_Table_m_value
  refine ⟨fd, X, X.ok sc_Table_m_value (fun vs H Q E h => len_Table_m_value h) (fun cdv A outer s H vs Q E hr h => ⟨t_Table_m_value K E, PSs.nox ?_, pure_Table_m_value T.FTable vs H Q E h⟩)⟩
  exact (pss_one (ps_ret (pe_tup (pa_cons pe_str (pa_cons (pe_fld (pv 0) rfl) (pa_cons (pe_fld (pv 0) rfl) pa_nil))))))
theorem ok_law_table_moves {P : Program} {w : World} {K : PySem.W.Frag} {mg : Str → Option Value} {base : Heap} (T : Txt K mg)  : O_law_table_moves P w K mg base := by
  obtain ⟨fd, X⟩ := T.d_law_table_moves
  refine ⟨fd, X, X.ok sc_law_table_moves (fun vs H Q E h => len_law_table_moves h) (fun cdv A outer s H vs Q E hr h => ⟨t_law_table_moves K E, PSs.nox ?_, pure_law_table_moves vs H Q E h⟩)⟩
  exact (pss_one (ps_ret (pe_lc (own := [("goal", 3)]) (g := (gName 3)) (tt := tYes) rfl sc_law_table_moves.nd (pi_tup (pe_ix ix_tup (pe_ix ix_tup (pv 0) (pv 1) (fun _ _ => rfl)) (pe_ifExp (pt_cmpR op_eq (pv 2) pe_str (nomark _)) pe_int pe_int) (fun _ _ => rfl))) (blkOk_by (N := R_law_table_moves) (sc := defScope s_law_table_moves) (by decide +kernel)) (fun _ _ _ _ _ => (pg_name (i := 3) sc_law_table_moves.nd rfl (Or.inl rfl))) (fun _ _ _ _ _ => pts_nil) (fun _ _ _ _ _ => (pe_tup (pa_cons pe_str (pa_cons (pv 0) (pa_cons (pv 3) pa_nil))))))))
theorem ok_law_told {P : Program} {w : World} {K : PySem.W.Frag} {mg : Str → Option Value} {base : Heap} (T : Txt K mg) (D_law_same : O_law_same P w K mg base) (D_Table_m_value : O_Table_m_value P w K mg base) : O_law_told P w K mg base := by
  obtain ⟨fd_law_same, X_law_same, G_law_same⟩ := D_law_same.ex
  have K_law_same := X_law_same.kp
  have B_law_same := X_law_same.bindsN (ps := ["told", "due"]) fun _ _ _ _ _ _ us hl => match us, hl with | [_, _], _ => rfl
  have V_law_same : Vals [] [] := .nil
  obtain ⟨fd_Table_m_value, X_Table_m_value, G_Table_m_value⟩ := D_Table_m_value.ex
  have K_Table_m_value := X_Table_m_value.kp
  have B_Table_m_value := X_Table_m_value.bindsN (ps := ["self"]) fun _ _ _ _ _ _ us hl => match us, hl with | [_], _ => rfl
  have V_Table_m_value : Vals [] [] := .nil
  obtain ⟨fd, X⟩ := T.d_law_told
  refine ⟨fd, X, X.ok sc_law_told (fun vs H Q E h => len_law_told h) (fun cdv A outer s H vs Q E hr h => ⟨t_law_told K E, PSs.nox ?_, pure_law_told vs H Q E h⟩)⟩
  exact (pss_cons (ps_if (PW.pt (pw_or (pt_not (pt_val (pe_callB call_isi rfl T.z_isinstance (by decide +kernel) (pa_cons (pv 0) (pa_cons (pe_bltn rfl T.z_list (by decide +kernel) rfl) pa_nil))))) (pw_or1 (pt_cmpR op_ne (pe_callB cr_lenQ rfl T.z_len (by decide +kernel) (pa_cons (pv 0) pa_nil)) (pe_callB cr_lenQ rfl T.z_len (by decide +kernel) (pa_cons (pv 1) pa_nil)) (nomark _))))) (pss_one (ps_ret pe_bl)) pss_nil)
      (pss_cons (ps_for PassesOwn.never rfl (pi_range1 rfl T.z_range (pa_cons (pe_callB cr_lenQ rfl T.z_len (by decide +kernel) (pa_cons (pv 1) pa_nil)) pa_nil)) (pg_name (i := 2) sc_law_told.nd rfl (Or.inl rfl))
      (pss_one (ps_if (PW.pt (pw_or (pt_not (pt_val (pe_callB (cr_isC T.ic_Table) rfl T.z_isinstance (by decide +kernel) (pa_cons (pe_ix ix_list (pv 0) (pv 2) (fun _ _ => rfl)) (pa_cons (C8.pe_gc rfl ⟨_, T.g_Table, rfl⟩) pa_nil))))) (pw_or1 (pt_not (pt_val (pe_call G_law_same (hr.mono (by decide)) rfl T.g__law_same K_law_same B_law_same V_law_same pass0 (pa_cons (pe_meth0 (pe_ix ix_list (pv 0) (pv 2) (fun _ _ => rfl)) T.cl_Table T.mt_Table_value G_Table_m_value (hr.mono (by decide)) B_Table_m_value .nil pass0) (pa_cons (pe_ix ix_list (pv 1) (pv 2) (fun _ _ => rfl)) pa_nil)))))))) (pss_one (ps_ret pe_bl)) pss_nil)))
      (pss_cons (ps_expr (pe_bm0 PySem.F.plainAttrs_list PySem.F.slot_list_reverse PySem.F.type_list_reverse mt_reverse (pv 0)))
      (pss_cons (ps_expr (pe_bm PySem.F.plainAttrs_list PySem.F.slot_list_append PySem.F.type_list_append mt_append (pv 0) (pa_cons pe_non pa_nil)))
      (pss_one (ps_ret pe_bl))))))
theorem ok_Table_p_moved {P : Program} {w : World} {K : PySem.W.Frag} {mg : Str → Option Value} {base : Heap} (T : Txt K mg) (D_Table_d_init : O_Table_d_init P w K mg base) : O_Table_p_moved P w K mg base := by
  obtain ⟨fd_Table_d_init, X_Table_d_init, G_Table_d_init⟩ := D_Table_d_init.ex
  have K_Table_d_init := X_Table_d_init.kp
  have B_Table_d_init := X_Table_d_init.bindsN (ps := ["self", "rows", "place"]) fun _ _ _ _ _ _ us hl => match us, hl with | [_, _, _], _ => rfl
  have V_Table_d_init : Vals [] [] := .nil
  obtain ⟨fd, X⟩ := T.d_Table_p_moved
  refine ⟨fd, X, X.ok sc_Table_p_moved (fun vs H Q E h => len_Table_p_moved h) (fun cdv A outer s H vs Q E hr h => ⟨t_Table_p_moved K E, PSs.nox ?_, pure_Table_p_moved T.FTable vs H Q E h⟩)⟩
  exact (pss_cons (ps_set (i := 2) sc_Table_p_moved.nd rfl (Or.inl rfl) (pe_make T.mk_Table G_Table_d_init (hr.mono (by decide)) rfl T.g_Table B_Table_d_init V_Table_d_init passL (pa_cons (pe_lst (pa_cons (pe_tup (pa_cons (pe_tup pa_nil) (pa_cons (pe_tup pa_nil) pa_nil))) pa_nil)) (pa_cons pe_int pa_nil))))
      (pss_cons (ps_fld (pv 2) (pe_fld (pv 0) rfl) rfl)
      (pss_cons (ps_fld (pv 2) (pv 1) rfl)
      (pss_one (ps_ret (pv 2))))))
theorem ok_Table_m_moves {P : Program} {w : World} {K : PySem.W.Frag} {mg : Str → Option Value} {base : Heap} (T : Txt K mg) (D_Table_p_moved : O_Table_p_moved P w K mg base) : O_Table_m_moves P w K mg base := by
  obtain ⟨fd_Table_p_moved, X_Table_p_moved, G_Table_p_moved⟩ := D_Table_p_moved.ex
  have K_Table_p_moved := X_Table_p_moved.kp
  have B_Table_p_moved := X_Table_p_moved.bindsN (ps := ["self", "place"]) fun _ _ _ _ _ _ us hl => match us, hl with | [_, _], _ => rfl
  have V_Table_p_moved : Vals [] [] := .nil
  obtain ⟨fd, X⟩ := T.d_Table_m_moves
  refine ⟨fd, X, X.ok sc_Table_m_moves (fun vs H Q E h => len_Table_m_moves h) (fun cdv A outer s H vs Q E hr h => ⟨t_Table_m_moves K E, PSs.nox ?_, pure_Table_m_moves T.FTable vs H Q E h⟩)⟩
  exact (pss_cons (ps_asg (pe_ix ix_tup (pe_fld (pv 0) rfl) (pe_fld (pv 0) rfl) (fun _ _ => rfl)) (pg_tup rfl (pgs_cons (pg_name (i := 2) sc_Table_m_moves.nd rfl (Or.inl rfl)) (pgs_cons (pg_name (i := 3) sc_Table_m_moves.nd rfl (Or.inl rfl)) pgs_nil))))
      (pss_cons (ps_set (i := 4) sc_Table_m_moves.nd rfl (Or.inl rfl) (pe_ifExp (pt_cmpR op_eq (pv 1) pe_str (nomark _)) (pv 2) (pv 3)))
      (pss_one (ps_ret (pe_lc (own := [("place", 5)]) (g := (gName 5)) (tt := tYes) rfl sc_Table_m_moves.nd (pi_tup (pv 4)) (blkOk_by (N := R_Table_m_moves) (sc := defScope s_Table_m_moves) (by decide +kernel)) (fun _ _ _ _ _ => (pg_name (i := 5) sc_Table_m_moves.nd rfl (Or.inl rfl))) (fun _ _ _ _ _ => pts_nil) (fun _ _ _ _ _ => (pe_meth (pv 0) T.cl_Table T.mt_Table__moved G_Table_p_moved (hr.mono (by decide)) B_Table_p_moved .nil pass0 (pa_cons (pv 5) pa_nil))))))))
theorem ok_Table_m_parts {P : Program} {w : World} {K : PySem.W.Frag} {mg : Str → Option Value} {base : Heap} (T : Txt K mg)  : O_Table_m_parts P w K mg base := by
  obtain ⟨fd, X⟩ := T.d_Table_m_parts
  refine ⟨fd, X, X.ok sc_Table_m_parts (fun vs H Q E h => len_Table_m_parts h) (fun cdv A outer s H vs Q E hr h => ⟨t_Table_m_parts K E, PSs.nox ?_, pure_Table_m_parts T.FTable vs H Q E h⟩)⟩
  exact (pss_one (ps_ret (pe_ifExp (pt_cmpR (op_neD hr.units) (pe_ix ix_tup (pe_fld (pv 0) rfl) (pe_fld (pv 0) rfl) (fun _ _ => rfl)) (pe_tup (pa_cons (pe_tup pa_nil) (pa_cons (pe_tup pa_nil) pa_nil))) (nomark _)) (pe_lst (pa_cons (pv 0) pa_nil)) (pe_lst pa_nil))))
theorem ok_law_asked {P : Program} {w : World} {K : PySem.W.Frag} {mg : Str → Option Value} {base : Heap} (T : Txt K mg) (D_law_same : O_law_same P w K mg base) (D_Table_m_value : O_Table_m_value P w K mg base) (D_law_table_moves : O_law_table_moves P w K mg base) (D_law_told : O_law_told P w K mg base) (D_Table_m_moves : O_Table_m_moves P w K mg base) (D_Table_m_parts : O_Table_m_parts P w K mg base) : O_law_asked P w K mg base := by
  obtain ⟨fd_law_same, X_law_same, G_law_same⟩ := D_law_same.ex
  have K_law_same := X_law_same.kp
  have B_law_same := X_law_same.bindsN (ps := ["told", "due"]) fun _ _ _ _ _ _ us hl => match us, hl with | [_, _], _ => rfl
  have V_law_same : Vals [] [] := .nil
  obtain ⟨fd_Table_m_value, X_Table_m_value, G_Table_m_value⟩ := D_Table_m_value.ex
  have K_Table_m_value := X_Table_m_value.kp
  have B_Table_m_value := X_Table_m_value.bindsN (ps := ["self"]) fun _ _ _ _ _ _ us hl => match us, hl with | [_], _ => rfl
  have V_Table_m_value : Vals [] [] := .nil
  obtain ⟨fd_law_table_moves, X_law_table_moves, G_law_table_moves⟩ := D_law_table_moves.ex
  have K_law_table_moves := X_law_table_moves.kp
  have B_law_table_moves := X_law_table_moves.bindsN (ps := ["rows", "place", "side"]) fun _ _ _ _ _ _ us hl => match us, hl with | [_, _, _], _ => rfl
  have V_law_table_moves : Vals [] [] := .nil
  obtain ⟨fd_law_told, X_law_told, G_law_told⟩ := D_law_told.ex
  have K_law_told := X_law_told.kp
  have B_law_told := X_law_told.bindsN (ps := ["boards", "dues"]) fun _ _ _ _ _ _ us hl => match us, hl with | [_, _], _ => rfl
  have V_law_told : Vals [] [] := .nil
  obtain ⟨fd_Table_m_moves, X_Table_m_moves, G_Table_m_moves⟩ := D_Table_m_moves.ex
  have K_Table_m_moves := X_Table_m_moves.kp
  have B_Table_m_moves := X_Table_m_moves.bindsN (ps := ["self", "side"]) fun _ _ _ _ _ _ us hl => match us, hl with | [_, _], _ => rfl
  have V_Table_m_moves : Vals [] [] := .nil
  obtain ⟨fd_Table_m_parts, X_Table_m_parts, G_Table_m_parts⟩ := D_Table_m_parts.ex
  have K_Table_m_parts := X_Table_m_parts.kp
  have B_Table_m_parts := X_Table_m_parts.bindsN (ps := ["self"]) fun _ _ _ _ _ _ us hl => match us, hl with | [_], _ => rfl
  have V_Table_m_parts : Vals [] [] := .nil
  obtain ⟨fd, X⟩ := T.d_law_asked
  refine ⟨fd, X, X.ok sc_law_asked (fun vs H Q E h => len_law_asked h) (fun cdv A outer s H vs Q E hr h => ⟨t_law_asked K E, PSs.nox ?_, pure_law_asked vs H Q E h⟩)⟩
  exact (pss_cons (ps_if (pt_not (pt_val (pe_call G_law_same (hr.mono (by decide)) rfl T.g__law_same K_law_same B_law_same V_law_same pass0 (pa_cons (pe_meth0 (pv 0) T.cl_Table T.mt_Table_value G_Table_m_value (hr.mono (by decide)) B_Table_m_value .nil pass0) (pa_cons (pe_tup (pa_cons pe_str (pa_cons (pv 1) (pa_cons (pv 2) pa_nil)))) pa_nil))))) (pss_one (ps_ret pe_bl)) pss_nil)
      (pss_cons (ps_set (i := 3) sc_law_asked.nd rfl (Or.inl rfl) (pe_lst (pa_cons (pe_call G_law_table_moves (hr.mono (by decide)) rfl T.g__law_table_moves K_law_table_moves B_law_table_moves V_law_table_moves pass0 (pa_cons (pv 1) (pa_cons (pv 2) (pa_cons pe_str pa_nil)))) (pa_cons (pe_call G_law_table_moves (hr.mono (by decide)) rfl T.g__law_table_moves K_law_table_moves B_law_table_moves V_law_table_moves pass0 (pa_cons (pv 1) (pa_cons (pv 2) (pa_cons pe_str pa_nil)))) pa_nil))))
      (pss_cons (ps_if (PW.pt (pw_or (pt_not (pt_val (pe_call G_law_told (hr.mono (by decide)) rfl T.g__law_told K_law_told B_law_told V_law_told pass0 (pa_cons (pe_meth (pv 0) T.cl_Table T.mt_Table_moves G_Table_m_moves (hr.mono (by decide)) B_Table_m_moves .nil pass0 (pa_cons pe_str pa_nil)) (pa_cons (pe_ix ix_list (pv 3) pe_int (fun _ _ => rfl)) pa_nil))))) (pw_or1 (pt_not (pt_val (pe_call G_law_told (hr.mono (by decide)) rfl T.g__law_told K_law_told B_law_told V_law_told pass0 (pa_cons (pe_meth (pv 0) T.cl_Table T.mt_Table_moves G_Table_m_moves (hr.mono (by decide)) B_Table_m_moves .nil pass0 (pa_cons pe_str pa_nil)) (pa_cons (pe_ix ix_list (pv 3) pe_int (fun _ _ => rfl)) pa_nil)))))))) (pss_one (ps_ret pe_bl)) pss_nil)
      (pss_cons (ps_set (i := 4) sc_law_asked.nd rfl (Or.inl rfl) (pe_lst (pa_cons (pe_tup (pa_cons pe_str (pa_cons (pv 1) (pa_cons (pv 2) pa_nil)))) pa_nil)))
      (pss_one (ps_ret (pe_call G_law_told (hr.mono (by decide)) rfl T.g__law_told K_law_told B_law_told V_law_told pass0 (pa_cons (pe_meth0 (pv 0) T.cl_Table T.mt_Table_parts G_Table_m_parts (hr.mono (by decide)) B_Table_m_parts .nil pass0) (pa_cons (pe_slice sl_list (pv 4) po_none (po_some (pe_op op_add (pe_callB cr_lenQ rfl T.z_len (by decide +kernel) (pa_cons (pe_ix ix_list (pv 3) pe_int (fun _ _ => rfl)) pa_nil)) (pe_callB cr_lenQ rfl T.z_len (by decide +kernel) (pa_cons (pe_ix ix_list (pv 3) pe_int (fun _ _ => rfl)) pa_nil))))) pa_nil)))))))))
theorem ok_law_bad_rows {P : Program} {w : World} {K : PySem.W.Frag} {mg : Str → Option Value} {base : Heap} (T : Txt K mg)  : O_law_bad_rows P w K mg base := by
  obtain ⟨fd, X⟩ := T.d_law_bad_rows
  refine ⟨fd, X, X.ok sc_law_bad_rows (fun vs H Q E h => len_law_bad_rows h) (fun cdv A outer s H vs Q E hr h => ⟨t_law_bad_rows K E, PSs.nox ?_, pure_law_bad_rows vs H Q E h⟩)⟩
  exact (pss_cons (ps_set (i := 3) sc_law_bad_rows.nd rfl (Or.inl rfl) (pe_callB cr_lenQ rfl T.z_len (by decide +kernel) (pa_cons (pv 0) pa_nil)))
      (pss_cons (ps_set (i := 4) sc_law_bad_rows.nd rfl (Or.inl rfl) (pe_ix ix_list (pv 0) (pv 1) (fun _ _ => rfl)))
      (pss_cons (ps_set (i := 5) sc_law_bad_rows.nd rfl (Or.inl rfl) (pe_lst (pa_cons (pe_tup (pa_cons (pe_tup (pa_cons (pv 1) pa_nil)) (pa_cons (pe_tup pa_nil) pa_nil))) (pa_cons (pe_tup (pa_cons (pe_tup pa_nil) (pa_cons (pe_tup (pa_cons (pv 1) pa_nil)) pa_nil))) (pa_cons (pe_tup (pa_cons (pe_tup (pa_cons (pv 3) pa_nil)) (pa_cons (pe_tup pa_nil) pa_nil))) (pa_cons (pe_tup (pa_cons (pe_tup pa_nil) (pa_cons (pe_tup (pa_cons (pe_op op_add (pv 3) (pv 2)) pa_nil)) pa_nil))) (pa_cons (pe_tup (pa_cons (pe_tup (pa_cons (pe_op op_sub (pe_un un_neg pe_int) (pv 2)) pa_nil)) (pa_cons (pe_tup pa_nil) pa_nil))) (pa_cons (pe_tup (pa_cons (pe_lst pa_nil) (pa_cons (pe_tup pa_nil) pa_nil))) (pa_cons (pe_tup (pa_cons (pe_tup pa_nil) (pa_cons (pe_lst pa_nil) pa_nil))) (pa_cons (pe_tup (pa_cons (pe_tup pa_nil) pa_nil)) pa_nil))))))))))
      (pss_cons (ps_set (i := 5) sc_law_bad_rows.nd rfl (Or.inl rfl) (pe_op op_cat (pv 5) (pe_lst (pa_cons (pe_tup (pa_cons (pe_tup pa_nil) (pa_cons (pe_tup pa_nil) (pa_cons (pe_tup pa_nil) pa_nil)))) (pa_cons (pe_lst (pa_cons (pe_tup pa_nil) (pa_cons (pe_tup pa_nil) pa_nil))) (pa_cons pe_non (pa_cons pe_bl (pa_cons (pe_tup pa_nil) (pa_cons (pe_tup (pa_cons (pe_tup (pa_cons pe_non pa_nil)) (pa_cons (pe_tup pa_nil) pa_nil))) (pa_cons (pe_tup (pa_cons (pe_tup pa_nil) (pa_cons (pe_tup (pa_cons pe_str pa_nil)) pa_nil))) (pa_cons (pe_tup (pa_cons (pe_ix ix_tup (pv 4) pe_int (fun _ _ => rfl)) (pa_cons pe_non pa_nil))) (pa_cons (pe_tup (pa_cons (pe_ix ix_tup (pv 4) pe_int (fun _ _ => rfl)) (pa_cons pe_int pa_nil))) (pa_cons pe_str pa_nil)))))))))))))
      (Evl.pss_cut (ps_if (pt_cmpR op_lt (pv 1) (pe_op op_sub (pv 3) pe_int) (nomark _)) (pss_one (ps_set (i := 5) sc_law_bad_rows.nd rfl (Or.inl rfl) (pe_op op_cat (pv 5) (pe_lst (pa_cons (pe_tup (pa_cons (pe_tup (pa_cons (pe_op op_sub (pv 3) pe_int) (pa_cons (pe_op op_sub (pv 3) pe_int) pa_nil))) (pa_cons (pe_ix ix_tup (pv 4) pe_int (fun _ _ => rfl)) pa_nil))) (pa_cons (pe_tup (pa_cons (pe_ix ix_tup (pv 4) pe_int (fun _ _ => rfl)) (pa_cons (pe_tup (pa_cons (pe_op op_sub (pv 3) pe_int) (pa_cons (pe_op op_add (pv 1) pe_int) pa_nil))) pa_nil))) (pa_cons (pe_tup (pa_cons (pe_ix ix_tup (pv 4) pe_int (fun _ _ => rfl)) (pa_cons (pe_tup (pa_cons (pe_op op_add (pv 1) pe_int) (pa_cons (pv 3) pa_nil))) pa_nil))) pa_nil))))))) pss_nil)
      (Evl.pss_cut (ps_if (pt_cmpR op_eq (pv 1) pe_int (nomark _)) (pss_one (ps_set (i := 5) sc_law_bad_rows.nd rfl (Or.inl rfl) (pe_op op_cat (pv 5) (pe_lst (pa_cons (pe_tup (pa_cons (pe_tup (pa_cons pe_bl pa_nil)) (pa_cons (pe_tup pa_nil) pa_nil))) (pa_cons (pe_tup (pa_cons (pe_tup pa_nil) (pa_cons (pe_tup (pa_cons pe_bl pa_nil)) pa_nil))) pa_nil)))))) pss_nil)
      (pss_one (ps_ret (pv 5)))))))))
theorem ok_law_refused {P : Program} {w : World} {K : PySem.W.Frag} {mg : Str → Option Value} {base : Heap} (T : Txt K mg) (D_Table_d_init : O_Table_d_init P w K mg base) : O_law_refused P w K mg base := by
  obtain ⟨fd_Table_d_init, X_Table_d_init, G_Table_d_init⟩ := D_Table_d_init.ex
  have K_Table_d_init := X_Table_d_init.kp
  have B_Table_d_init := X_Table_d_init.bindsN (ps := ["self", "rows", "place"]) fun _ _ _ _ _ _ us hl => match us, hl with | [_, _, _], _ => rfl
  have V_Table_d_init : Vals [] [] := .nil
  obtain ⟨fd, X⟩ := T.d_law_refused
  refine ⟨fd, X, X.ok sc_law_refused (fun vs H Q E h => len_law_refused h) (fun cdv A outer s H vs Q E hr h => ⟨t_law_refused K E, PSs.nox ?_, pure_law_refused T.FBadValue vs H Q E h⟩)⟩
  exact (pss_cons (ps_try_as (i := 2) (c := (.ref (He.ga K "PlayError"))) (tb := fun W => (tDrop (tMakeS (He.ga K "Table") (sp_Table_d_init K) [] (WE W) (tCons (tVar 0) (tCons (tVar 1) tNil))))) (ts := (fun a cls d => tWhen (cls = .ref (He.ga K "BadValue") ∧ d = none) (tSeq (tIfS (tOr (tB (tCB (rIsE K (He.ga K "BadValue") a) (tCons (tVar 2) (tCons (tC (.ref (He.ga K "BadText"))) tNil)))) (tOr (tB (tCB (rIsE K (He.ga K "BadValue") a) (tCons (tVar 2) (tCons (tC (.ref (He.ga K "NoMove"))) tNil)))) (tB (tCB (rIsE K (He.ga K "BadValue") a) (tCons (tVar 2) (tCons (tC (.ref (He.ga K "Unknown"))) tNil)))))) (tRet (tC (.bl false))) tNext) (tRet (tAndV (tCB (rIsE K (He.ga K "BadValue") a) (tCons (tVar 2) (tCons (tC (.ref (He.ga K "BadValue"))) tNil))) (tCB (rIsE K (He.ga K "BadValue") a) (tCons (tVar 2) (tCons (tC (.ty "ValueError")) tNil)))))))) (Wout := fun _ _ _ _ => False) rfl rfl sc_law_refused.nd rfl rfl ⟨rfl, by decide, Or.inl T.g_PlayError⟩ takes0 (fun W pn xe tk _ => (pss_one (ps_expr (pe_makeS T.mk_Table G_Table_d_init (hr.mono (by decide)) rfl T.g_Table B_Table_d_init V_Table_d_init (fun σ => passAt tk σ) (pa_cons (pv 0) (pa_cons (pv 1) pa_nil)))))) (fun a oe cls d pn hz hf => pss_when fun hh => (pss_cons (ps_if (PW.pt (pw_or (pt_val (pe_callB (call_isE T.xc_BadValue (zc_at hh hz) hf) rfl T.z_isinstance (by decide +kernel) (pa_cons (pv 2) (pa_cons (C8.pe_gc rfl ⟨_, T.g_BadText, rfl⟩) pa_nil)))) (pw_or (pt_val (pe_callB (call_isE T.xc_BadValue (zc_at hh hz) hf) rfl T.z_isinstance (by decide +kernel) (pa_cons (pv 2) (pa_cons (C8.pe_gc rfl ⟨_, T.g_NoMove, rfl⟩) pa_nil)))) (pw_or1 (pt_val (pe_callB (call_isE T.xc_BadValue (zc_at hh hz) hf) rfl T.z_isinstance (by decide +kernel) (pa_cons (pv 2) (pa_cons (C8.pe_gc rfl ⟨_, T.g_Unknown, rfl⟩) pa_nil)))))))) (pss_one (ps_ret pe_bl)) pss_nil)
      (pss_one (ps_ret (pe_and (pe_callB (call_isE T.xc_BadValue (zc_at hh hz) hf) rfl T.z_isinstance (by decide +kernel) (pa_cons (pv 2) (pa_cons (C8.pe_gc rfl ⟨_, T.g_BadValue, rfl⟩) pa_nil))) (pe_one (pe_callB (call_isE T.xc_BadValue (zc_at hh hz) hf) rfl T.z_isinstance (by decide +kernel) (pa_cons (pv 2) (pa_cons (pe_bltn rfl T.z_ValueError (by decide +kernel) rfl) pa_nil))))))))))
      (pss_one (ps_ret pe_bl)))
theorem ok_law_all_refused {P : Program} {w : World} {K : PySem.W.Frag} {mg : Str → Option Value} {base : Heap} (T : Txt K mg) (D_law_bad_rows : O_law_bad_rows P w K mg base) (D_law_refused : O_law_refused P w K mg base) : O_law_all_refused P w K mg base := by
  obtain ⟨fd_law_bad_rows, X_law_bad_rows, G_law_bad_rows⟩ := D_law_bad_rows.ex
  have K_law_bad_rows := X_law_bad_rows.kp
  have B_law_bad_rows := X_law_bad_rows.bindsN (ps := ["rows", "at", "far"]) fun _ _ _ _ _ _ us hl => match us, hl with | [_, _, _], _ => rfl
  have V_law_bad_rows : Vals [] [] := .nil
  obtain ⟨fd_law_refused, X_law_refused, G_law_refused⟩ := D_law_refused.ex
  have K_law_refused := X_law_refused.kp
  have B_law_refused := X_law_refused.bindsN (ps := ["rows", "place"]) fun _ _ _ _ _ _ us hl => match us, hl with | [_, _], _ => rfl
  have V_law_refused : Vals [] [] := .nil
  obtain ⟨fd, X⟩ := T.d_law_all_refused
  refine ⟨fd, X, X.ok sc_law_all_refused (fun vs H Q E h => len_law_all_refused h) (fun cdv A outer s H vs Q E hr h => ⟨t_law_all_refused K E, PSs.nox ?_, pure_law_all_refused vs H Q E h⟩)⟩
  exact (pss_cons (ps_for PassesOwn.never rfl (pi_list (pe_call G_law_bad_rows (hr.mono (by decide)) rfl T.g__law_bad_rows K_law_bad_rows B_law_bad_rows V_law_bad_rows pass0 (pa_cons (pv 0) (pa_cons (pv 1) (pa_cons (pv 3) pa_nil))))) (pg_name (i := 4) sc_law_all_refused.nd rfl (Or.inl rfl))
      (pss_one (ps_if (pt_not (pt_val (pe_call G_law_refused (hr.mono (by decide)) rfl T.g__law_refused K_law_refused B_law_refused V_law_refused pass0 (pa_cons (pe_op op_cat (pe_op op_cat (pe_slice sl_list (pv 0) po_none (po_some (pv 1))) (pe_lst (pa_cons (pv 4) pa_nil))) (pe_slice sl_list (pv 0) (po_some (pe_op op_add (pv 1) pe_int)) po_none)) (pa_cons (pv 2) pa_nil))))) (pss_one (ps_ret pe_bl)) pss_nil)))
      (pss_cons (ps_for PassesOwn.never rfl (pi_list (pe_lst (pa_cons (pe_un un_neg pe_int) (pa_cons (pe_callB cr_lenQ rfl T.z_len (by decide +kernel) (pa_cons (pv 0) pa_nil)) (pa_cons (pe_op op_add (pe_callB cr_lenQ rfl T.z_len (by decide +kernel) (pa_cons (pv 0) pa_nil)) (pv 3)) (pa_cons (pe_op op_sub (pe_un un_neg pe_int) (pv 3)) (pa_cons pe_non (pa_cons pe_bl (pa_cons pe_bl (pa_cons pe_str (pa_cons (pe_tup (pa_cons pe_int pa_nil)) (pa_cons (pe_lst pa_nil) pa_nil)))))))))))) (pg_name (i := 5) sc_law_all_refused.nd rfl (Or.inl rfl))
      (pss_one (ps_if (pt_not (pt_val (pe_call G_law_refused (hr.mono (by decide)) rfl T.g__law_refused K_law_refused B_law_refused V_law_refused pass0 (pa_cons (pv 0) (pa_cons (pv 5) pa_nil))))) (pss_one (ps_ret pe_bl)) pss_nil)))
      (pss_cons (ps_for PassesOwn.never rfl (pi_list (pe_lst (pa_cons pe_non (pa_cons pe_int (pa_cons pe_bl (pa_cons pe_str (pa_cons pe_str (pa_cons (pe_tup pa_nil) (pa_cons (pe_tup (pa_cons pe_int (pa_cons pe_int pa_nil))) (pa_cons pe_dnewK pa_nil)))))))))) (pg_name (i := 5) sc_law_all_refused.nd rfl (Or.inl rfl))
      (pss_one (ps_if (pt_not (pt_val (pe_call G_law_refused (hr.mono (by decide)) rfl T.g__law_refused K_law_refused B_law_refused V_law_refused pass0 (pa_cons (pv 5) (pa_cons pe_int pa_nil))))) (pss_one (ps_ret pe_bl)) pss_nil)))
      (pss_cons (ps_if (PW.pt (pw_or (pt_not (pt_val (pe_call G_law_refused (hr.mono (by decide)) rfl T.g__law_refused K_law_refused B_law_refused V_law_refused pass0 (pa_cons (pe_lst pa_nil) (pa_cons pe_int pa_nil))))) (pw_or1 (pt_not (pt_val (pe_call G_law_refused (hr.mono (by decide)) rfl T.g__law_refused K_law_refused B_law_refused V_law_refused pass0 (pa_cons (pe_callTy cr_tupL rfl T.z_tuple (by decide +kernel) (pa_cons (pv 0) pa_nil)) (pa_cons (pv 2) pa_nil)))))))) (pss_one (ps_ret pe_bl)) pss_nil)
      (pss_one (ps_ret (pe_call G_law_refused (hr.mono (by decide)) rfl T.g__law_refused K_law_refused B_law_refused V_law_refused pass0 (pa_cons (pe_op op_cat (pv 0) (pe_op op_rep (pe_lst (pa_cons (pe_tup (pa_cons (pe_tup pa_nil) (pa_cons (pe_tup pa_nil) pa_nil))) pa_nil)) (pe_op op_sub pe_int (pe_callB cr_lenQ rfl T.z_len (by decide +kernel) (pa_cons (pv 0) pa_nil))))) (pa_cons (pv 2) pa_nil)))))))))
theorem ok_law {P : Program} {w : World} {K : PySem.W.Frag} {mg : Str → Option Value} {base : Heap} (T : Txt K mg) (D_law_rows : O_law_rows P w K mg base) (D_law_cell : O_law_cell P w K mg base) (D_Table_d_init : O_Table_d_init P w K mg base) (D_law_asked : O_law_asked P w K mg base) (D_law_all_refused : O_law_all_refused P w K mg base) (D_law_digits : O_law_digits P w K mg base) (D_law_table_moves : O_law_table_moves P w K mg base) (D_Table_m_moves : O_Table_m_moves P w K mg base) : O_law P w K mg base := by
  obtain ⟨fd_law_rows, X_law_rows, G_law_rows⟩ := D_law_rows.ex
  have K_law_rows := X_law_rows.kp
  have B_law_rows := X_law_rows.bindsN (ps := ["script", "first", "cell"]) fun _ _ _ _ _ _ us hl => match us, hl with | [_, _, _], _ => rfl
  have V_law_rows : Vals [] [] := .nil
  obtain ⟨fd_law_cell, X_law_cell, G_law_cell⟩ := D_law_cell.ex
  have K_law_cell := X_law_cell.kp
  have B_law_cell := X_law_cell.bindsN (ps := ["script", "k"]) fun _ _ _ _ _ _ us hl => match us, hl with | [_, _], _ => rfl
  have V_law_cell : Vals [] [] := .nil
  obtain ⟨fd_Table_d_init, X_Table_d_init, G_Table_d_init⟩ := D_Table_d_init.ex
  have K_Table_d_init := X_Table_d_init.kp
  have B_Table_d_init := X_Table_d_init.bindsN (ps := ["self", "rows", "place"]) fun _ _ _ _ _ _ us hl => match us, hl with | [_, _, _], _ => rfl
  have V_Table_d_init : Vals [] [] := .nil
  obtain ⟨fd_law_asked, X_law_asked, G_law_asked⟩ := D_law_asked.ex
  have K_law_asked := X_law_asked.kp
  have B_law_asked := X_law_asked.bindsN (ps := ["board", "rows", "place"]) fun _ _ _ _ _ _ us hl => match us, hl with | [_, _, _], _ => rfl
  have V_law_asked : Vals [] [] := .nil
  obtain ⟨fd_law_all_refused, X_law_all_refused, G_law_all_refused⟩ := D_law_all_refused.ex
  have K_law_all_refused := X_law_all_refused.kp
  have B_law_all_refused := X_law_all_refused.bindsN (ps := ["rows", "at", "place", "far"]) fun _ _ _ _ _ _ us hl => match us, hl with | [_, _, _, _], _ => rfl
  have V_law_all_refused : Vals [] [] := .nil
  obtain ⟨fd_law_digits, X_law_digits, G_law_digits⟩ := D_law_digits.ex
  have K_law_digits := X_law_digits.kp
  have B_law_digits := X_law_digits.bindsN (ps := ["cell", "count"]) fun _ _ _ _ _ _ us hl => match us, hl with | [_, _], _ => rfl
  have V_law_digits : Vals [] [] := .nil
  obtain ⟨fd_law_table_moves, X_law_table_moves, G_law_table_moves⟩ := D_law_table_moves.ex
  have K_law_table_moves := X_law_table_moves.kp
  have B_law_table_moves := X_law_table_moves.bindsN (ps := ["rows", "place", "side"]) fun _ _ _ _ _ _ us hl => match us, hl with | [_, _, _], _ => rfl
  have V_law_table_moves : Vals [] [] := .nil
  obtain ⟨fd_Table_m_moves, X_Table_m_moves, G_Table_m_moves⟩ := D_Table_m_moves.ex
  have K_Table_m_moves := X_Table_m_moves.kp
  have B_Table_m_moves := X_Table_m_moves.bindsN (ps := ["self", "side"]) fun _ _ _ _ _ _ us hl => match us, hl with | [_, _], _ => rfl
  have V_Table_m_moves : Vals [] [] := .nil
  obtain ⟨fd, X⟩ := T.d_law
  refine ⟨fd, X, X.ok sc_law (fun vs H Q E h => len_law h) (fun cdv A outer s H vs Q E hr h => ⟨t_law K E, PSs.nox ?_, pure_law vs H Q E h⟩)⟩
  exact (pss_cons (ps_set (i := 1) sc_law.nd rfl (Or.inl rfl) (pe_call G_law_rows (hr.mono (by decide)) rfl T.g__law_rows K_law_rows B_law_rows V_law_rows pass0 (pa_cons (pv 0) (pa_cons pe_int (pa_cons (pe_call G_law_cell (hr.mono (by decide)) rfl T.g__law_cell K_law_cell B_law_cell V_law_cell pass0 (pa_cons (pv 0) (pa_cons pe_int pa_nil))) pa_nil)))))
      (pss_cons (ps_set (i := 2) sc_law.nd rfl (Or.inl rfl) (pe_op op_mod (pe_callTy cr_intI rfl T.z_int (by decide +kernel) (pa_cons (pe_call G_law_cell (hr.mono (by decide)) rfl T.g__law_cell K_law_cell B_law_cell V_law_cell pass0 (pa_cons (pv 0) (pa_cons pe_int pa_nil))) pa_nil)) (pe_callB cr_lenQ rfl T.z_len (by decide +kernel) (pa_cons (pv 1) pa_nil))))
      (pss_cons (ps_set (i := 3) sc_law.nd rfl (Or.inl rfl) (pe_callTy cr_listQ rfl T.z_list (by decide +kernel) (pa_cons (pv 1) pa_nil)))
      (pss_cons (ps_set (i := 4) sc_law.nd rfl (Or.inl rfl) (pe_make T.mk_Table G_Table_d_init (hr.mono (by decide)) rfl T.g_Table B_Table_d_init V_Table_d_init passL (pa_cons (pv 3) (pa_cons (pv 2) pa_nil))))
      (pss_cons (ps_if (pt_cmpR (op_neD hr.units) (pv 3) (pv 1) (nomark _)) (pss_one (ps_ret pe_bl)) pss_nil)
      (pss_cons (ps_asg (pe_tup (pa_cons (pe_tup pa_nil) (pa_cons (pe_tup pa_nil) pa_nil))) (pg_sub (pv 3) pe_int set_list))
      (pss_cons (ps_expr (pe_bm PySem.F.plainAttrs_list PySem.F.slot_list_append PySem.F.type_list_append mt_append (pv 3) (pa_cons (pe_tup (pa_cons (pe_tup pa_nil) (pa_cons (pe_tup pa_nil) pa_nil))) pa_nil)))
      (pss_cons (ps_set (i := 5) sc_law.nd rfl (Or.inl rfl) (pe_make T.mk_Table G_Table_d_init (hr.mono (by decide)) rfl T.g_Table B_Table_d_init V_Table_d_init passL (pa_cons (pv 1) (pa_cons (pe_op op_sub (pe_callB cr_lenQ rfl T.z_len (by decide +kernel) (pa_cons (pv 1) pa_nil)) pe_int) pa_nil))))
      (pss_cons (ps_if (PW.pt (pw_or (pt_not (pt_val (pe_call G_law_asked (hr.mono (by decide)) rfl T.g__law_asked K_law_asked B_law_asked V_law_asked pass0 (pa_cons (pv 4) (pa_cons (pe_callTy cr_tupL rfl T.z_tuple (by decide +kernel) (pa_cons (pv 1) pa_nil)) (pa_cons (pv 2) pa_nil)))))) (pw_or1 (pt_not (pt_val (pe_call G_law_asked (hr.mono (by decide)) rfl T.g__law_asked K_law_asked B_law_asked V_law_asked pass0 (pa_cons (pv 5) (pa_cons (pe_callTy cr_tupL rfl T.z_tuple (by decide +kernel) (pa_cons (pv 1) pa_nil)) (pa_cons (pe_op op_sub (pe_callB cr_lenQ rfl T.z_len (by decide +kernel) (pa_cons (pv 1) pa_nil)) pe_int) pa_nil))))))))) (pss_one (ps_ret pe_bl)) pss_nil)
      (pss_cons (ps_set (i := 6) sc_law.nd rfl (Or.inl rfl) (pe_op op_mod (pe_callTy cr_intI rfl T.z_int (by decide +kernel) (pa_cons (pe_call G_law_cell (hr.mono (by decide)) rfl T.g__law_cell K_law_cell B_law_cell V_law_cell pass0 (pa_cons (pv 0) (pa_cons pe_int pa_nil))) pa_nil)) (pe_op op_pow pe_int pe_int)))
      (pss_cons (ps_if (pt_not (pt_val (pe_call G_law_all_refused (hr.mono (by decide)) rfl T.g__law_all_refused K_law_all_refused B_law_all_refused V_law_all_refused pass0 (pa_cons (pv 1) (pa_cons (pe_op op_mod (pe_callTy cr_intI rfl T.z_int (by decide +kernel) (pa_cons (pe_call G_law_cell (hr.mono (by decide)) rfl T.g__law_cell K_law_cell B_law_cell V_law_cell pass0 (pa_cons (pv 0) (pa_cons pe_int pa_nil))) pa_nil)) (pe_callB cr_lenQ rfl T.z_len (by decide +kernel) (pa_cons (pv 1) pa_nil))) (pa_cons (pv 2) (pa_cons (pv 6) pa_nil))))))) (pss_one (ps_ret pe_bl)) pss_nil)
      (pss_cons (ps_for PassesOwn.never rfl (pi_range1 rfl T.z_range (pa_cons pe_int pa_nil)) (pg_name (i := 7) sc_law.nd rfl (Or.inl rfl))
      (pss_cons (ps_set (i := 8) sc_law.nd rfl (Or.inl rfl) (pe_call G_law_digits (hr.mono (by decide)) rfl T.g__law_digits K_law_digits B_law_digits V_law_digits pass0 (pa_cons (pe_call G_law_cell (hr.mono (by decide)) rfl T.g__law_cell K_law_cell B_law_cell V_law_cell pass0 (pa_cons (pv 0) (pa_cons (pe_op op_add pe_int (pv 7)) pa_nil))) (pa_cons pe_int pa_nil))))
      (pss_cons (ps_set (i := 9) sc_law.nd rfl (Or.inl rfl) (pe_ix ix_list (pe_lst (pa_cons pe_str (pa_cons pe_str pa_nil))) (pe_op op_mod (pe_callTy cr_intI rfl T.z_int (by decide +kernel) (pa_cons (pe_ix ix_list (pv 8) pe_int (fun _ _ => rfl)) pa_nil)) pe_int) (fun _ _ => rfl)))
      (pss_cons (ps_set (i := 10) sc_law.nd rfl (Or.inl rfl) (pe_call G_law_table_moves (hr.mono (by decide)) rfl T.g__law_table_moves K_law_table_moves B_law_table_moves V_law_table_moves pass0 (pa_cons (pe_callTy cr_tupL rfl T.z_tuple (by decide +kernel) (pa_cons (pv 1) pa_nil)) (pa_cons (pv 2) (pa_cons (pv 9) pa_nil)))))
      (pss_one (ps_if (pt_cmpR op_gt (pe_callB cr_lenQ rfl T.z_len (by decide +kernel) (pa_cons (pv 10) pa_nil)) pe_int (nomark _)) (pss_cons (ps_set (i := 4) sc_law.nd rfl (Or.inl rfl) (pe_ix ix_list (pe_meth (pv 4) T.cl_Table T.mt_Table_moves G_Table_m_moves (hr.mono (by decide)) B_Table_m_moves .nil pass0 (pa_cons (pv 9) pa_nil)) (pe_op op_mod (pe_callTy cr_intI rfl T.z_int (by decide +kernel) (pa_cons (pe_ix ix_list (pv 8) pe_int (fun _ _ => rfl)) pa_nil)) (pe_callB cr_lenQ rfl T.z_len (by decide +kernel) (pa_cons (pv 10) pa_nil))) (fun _ _ => rfl)))
      (pss_cons (ps_set (i := 2) sc_law.nd rfl (Or.inl rfl) (pe_ix ix_tup (pe_ix ix_list (pv 10) (pe_op op_mod (pe_callTy cr_intI rfl T.z_int (by decide +kernel) (pa_cons (pe_ix ix_list (pv 8) pe_int (fun _ _ => rfl)) pa_nil)) (pe_callB cr_lenQ rfl T.z_len (by decide +kernel) (pa_cons (pv 10) pa_nil))) (fun _ _ => rfl)) pe_int (fun _ _ => rfl)))
      (pss_one (ps_if (pt_not (pt_val (pe_call G_law_asked (hr.mono (by decide)) rfl T.g__law_asked K_law_asked B_law_asked V_law_asked pass0 (pa_cons (pv 4) (pa_cons (pe_callTy cr_tupL rfl T.z_tuple (by decide +kernel) (pa_cons (pv 1) pa_nil)) (pa_cons (pv 2) pa_nil)))))) (pss_one (ps_ret pe_bl)) pss_nil)))) pss_nil))))))
      (pss_one (ps_ret pe_bl))))))))))))))
theorem all_ok {P : Program} {w : World} {K : PySem.W.Frag} {mg : Str → Option Value} {base : Heap} (T : Txt K mg) : O_law P w K mg base := by
  have h_law_digits : O_law_digits P w K mg base := ok_law_digits T 
  have h_law_cell : O_law_cell P w K mg base := ok_law_cell T 
  have h_law_goals : O_law_goals P w K mg base := ok_law_goals T 
  have h_law_rows : O_law_rows P w K mg base := ok_law_rows T h_law_digits h_law_cell h_law_goals
  have h_is_whole : O_is_whole P w K mg base := ok_is_whole T 
  have h_check_row : O_check_row P w K mg base := ok_check_row T h_is_whole
  have h_Table_d_init : O_Table_d_init P w K mg base := ok_Table_d_init T h_check_row h_is_whole
  have h_law_same : O_law_same P w K mg base := ok_law_same T 
  have h_Table_m_value : O_Table_m_value P w K mg base := ok_Table_m_value T 
  have h_law_table_moves : O_law_table_moves P w K mg base := ok_law_table_moves T 
  have h_law_told : O_law_told P w K mg base := ok_law_told T h_law_same h_Table_m_value
  have h_Table_p_moved : O_Table_p_moved P w K mg base := ok_Table_p_moved T h_Table_d_init
  have h_Table_m_moves : O_Table_m_moves P w K mg base := ok_Table_m_moves T h_Table_p_moved
  have h_Table_m_parts : O_Table_m_parts P w K mg base := ok_Table_m_parts T 
  have h_law_asked : O_law_asked P w K mg base := ok_law_asked T h_law_same h_Table_m_value h_law_table_moves h_law_told h_Table_m_moves h_Table_m_parts
  have h_law_bad_rows : O_law_bad_rows P w K mg base := ok_law_bad_rows T 
  have h_law_refused : O_law_refused P w K mg base := ok_law_refused T h_Table_d_init
  have h_law_all_refused : O_law_all_refused P w K mg base := ok_law_all_refused T h_law_bad_rows h_law_refused
  have h_law : O_law P w K mg base := ok_law T h_law_rows h_law_cell h_Table_d_init h_law_asked h_law_all_refused h_law_digits h_law_table_moves h_Table_m_moves
  exact h_law
def fs : List (PySem.W.Frag → Bool) := [fun K => (He.Fa.glo "BadText").ok K,
  fun K => (He.Fa.glo "BadValue").ok K,
  fun K => (He.Fa.glo "NoMove").ok K,
  fun K => (He.Fa.glo "PlayError").ok K,
  fun K => (He.Fa.glo "Table").ok K,
  fun K => (He.Fa.glo "Unknown").ok K,
  fun K => (He.Fa.glo "_check_row").ok K,
  fun K => (He.Fa.glo "_law_all_refused").ok K,
  fun K => (He.Fa.glo "_law_asked").ok K,
  fun K => (He.Fa.glo "_law_bad_rows").ok K,
  fun K => (He.Fa.glo "_law_cell").ok K,
  fun K => (He.Fa.glo "_law_digits").ok K,
  fun K => (He.Fa.glo "_law_goals").ok K,
  fun K => (He.Fa.glo "_law_refused").ok K,
  fun K => (He.Fa.glo "_law_rows").ok K,
  fun K => (He.Fa.glo "_law_same").ok K,
  fun K => (He.Fa.glo "_law_table_moves").ok K,
  fun K => (He.Fa.glo "_law_told").ok K,
  fun K => (He.Fa.glo "is_whole").ok K,
  fun K => (He.Fa.glo "law").ok K,
  fun K => (He.Fa.free "ValueError").ok K,
  fun K => (He.Fa.free "bool").ok K,
  fun K => (He.Fa.free "enumerate").ok K,
  fun K => (He.Fa.free "int").ok K,
  fun K => (He.Fa.free "isinstance").ok K,
  fun K => (He.Fa.free "len").ok K,
  fun K => (He.Fa.free "list").ok K,
  fun K => (He.Fa.free "range").ok K,
  fun K => (He.Fa.free "str").ok K,
  fun K => (He.Fa.free "tuple").ok K,
  fun K => (He.Fa.free "type").ok K,
  fun K => (He.Fa.int "MOST_ROWS" (40)).ok K,
  fun K => (He.Fa.cls "Table").ok K,
  fun K => (He.Fa.exc "BadValue").ok K,
  fun K => excCB K "BadValue",
  fun K => decide (PySem.W.exmOne K (.ref (He.ga K "BadValue")) (.ref (He.ga K "PlayError")) = some true),
  fun K => inscB K "Table",
  fun K => decide (PySem.W.kitOne K (.ref (He.ga K "BadValue")) (.ref (He.ga K "BadText")) = some false),
  fun K => decide (PySem.W.kitOne K (.ref (He.ga K "BadValue")) (.ref (He.ga K "BadValue")) = some true),
  fun K => decide (PySem.W.kitOne K (.ref (He.ga K "BadValue")) (.ref (He.ga K "NoMove")) = some false),
  fun K => decide (PySem.W.kitOne K (.ref (He.ga K "BadValue")) (.ref (He.ga K "Unknown")) = some false),
  fun K => decide (PySem.W.kitOne K (.ref (He.ga K "BadValue")) (.type "ValueError") = some true),
  fun K => (He.Fa.meth "Table" "_moved").ok K,
  fun K => (He.Fa.meth "Table" "moves").ok K,
  fun K => (He.Fa.meth "Table" "parts").ok K,
  fun K => (He.Fa.meth "Table" "value").ok K,
  fun K => (He.Fa.mkr "Table").ok K,
  fun K => (He.Fa.noat "Table" "_place").ok K,
  fun K => (He.Fa.noat "Table" "_rows").ok K]
def fn : List He5.DefA := [{ at_ := fun K => ad_law_digits K, name := "_law_digits", qual := "_law_digits", params := defArgs s_law_digits, body := defBody s_law_digits, scope := defScope s_law_digits, dfl := [] },
  { at_ := fun K => ad_law_cell K, name := "_law_cell", qual := "_law_cell", params := defArgs s_law_cell, body := defBody s_law_cell, scope := defScope s_law_cell, dfl := [] },
  { at_ := fun K => ad_law_goals K, name := "_law_goals", qual := "_law_goals", params := defArgs s_law_goals, body := defBody s_law_goals, scope := defScope s_law_goals, dfl := [] },
  { at_ := fun K => ad_law_rows K, name := "_law_rows", qual := "_law_rows", params := defArgs s_law_rows, body := defBody s_law_rows, scope := defScope s_law_rows, dfl := [] },
  { at_ := fun K => ad_is_whole K, name := "is_whole", qual := "is_whole", params := defArgs s_is_whole, body := defBody s_is_whole, scope := defScope s_is_whole, dfl := [] },
  { at_ := fun K => ad_check_row K, name := "_check_row", qual := "_check_row", params := defArgs s_check_row, body := defBody s_check_row, scope := defScope s_check_row, dfl := [] },
  { at_ := fun K => ad_Table_d_init K, name := "__init__", qual := "Table.__init__", params := defArgs s_Table_d_init, body := defBody s_Table_d_init, scope := defScope s_Table_d_init, dfl := [] },
  { at_ := fun K => ad_law_same K, name := "_law_same", qual := "_law_same", params := defArgs s_law_same, body := defBody s_law_same, scope := defScope s_law_same, dfl := [] },
  { at_ := fun K => ad_Table_m_value K, name := "value", qual := "Table.value", params := defArgs s_Table_m_value, body := defBody s_Table_m_value, scope := defScope s_Table_m_value, dfl := [] },
  { at_ := fun K => ad_law_table_moves K, name := "_law_table_moves", qual := "_law_table_moves", params := defArgs s_law_table_moves, body := defBody s_law_table_moves, scope := defScope s_law_table_moves, dfl := [] },
  { at_ := fun K => ad_law_told K, name := "_law_told", qual := "_law_told", params := defArgs s_law_told, body := defBody s_law_told, scope := defScope s_law_told, dfl := [] },
  { at_ := fun K => ad_Table_p_moved K, name := "_moved", qual := "Table._moved", params := defArgs s_Table_p_moved, body := defBody s_Table_p_moved, scope := defScope s_Table_p_moved, dfl := [] },
  { at_ := fun K => ad_Table_m_moves K, name := "moves", qual := "Table.moves", params := defArgs s_Table_m_moves, body := defBody s_Table_m_moves, scope := defScope s_Table_m_moves, dfl := [] },
  { at_ := fun K => ad_Table_m_parts K, name := "parts", qual := "Table.parts", params := defArgs s_Table_m_parts, body := defBody s_Table_m_parts, scope := defScope s_Table_m_parts, dfl := [] },
  { at_ := fun K => ad_law_asked K, name := "_law_asked", qual := "_law_asked", params := defArgs s_law_asked, body := defBody s_law_asked, scope := defScope s_law_asked, dfl := [] },
  { at_ := fun K => ad_law_bad_rows K, name := "_law_bad_rows", qual := "_law_bad_rows", params := defArgs s_law_bad_rows, body := defBody s_law_bad_rows, scope := defScope s_law_bad_rows, dfl := [] },
  { at_ := fun K => ad_law_refused K, name := "_law_refused", qual := "_law_refused", params := defArgs s_law_refused, body := defBody s_law_refused, scope := defScope s_law_refused, dfl := [] },
  { at_ := fun K => ad_law_all_refused K, name := "_law_all_refused", qual := "_law_all_refused", params := defArgs s_law_all_refused, body := defBody s_law_all_refused, scope := defScope s_law_all_refused, dfl := [] },
  { at_ := fun K => ad_law K, name := "law", qual := "law", params := defArgs s_law, body := defBody s_law, scope := defScope s_law, dfl := [] }]
theorem txt_of {K : PySem.W.Frag} {h : Heap} {mg : Str → Option Value} (X : K.In h) (G : h.Ns mainGlobals mg) (c : SaysM fs fn K) : Txt K mg where
  g_BadText := He.glo_ok X G (c.fact 0 rfl)
  g_BadValue := He.glo_ok X G (c.fact 1 rfl)
  g_NoMove := He.glo_ok X G (c.fact 2 rfl)
  g_PlayError := He.glo_ok X G (c.fact 3 rfl)
  g_Table := He.glo_ok X G (c.fact 4 rfl)
  g_Unknown := He.glo_ok X G (c.fact 5 rfl)
  g__check_row := He.glo_ok X G (c.fact 6 rfl)
  g__law_all_refused := He.glo_ok X G (c.fact 7 rfl)
  g__law_asked := He.glo_ok X G (c.fact 8 rfl)
  g__law_bad_rows := He.glo_ok X G (c.fact 9 rfl)
  g__law_cell := He.glo_ok X G (c.fact 10 rfl)
  g__law_digits := He.glo_ok X G (c.fact 11 rfl)
  g__law_goals := He.glo_ok X G (c.fact 12 rfl)
  g__law_refused := He.glo_ok X G (c.fact 13 rfl)
  g__law_rows := He.glo_ok X G (c.fact 14 rfl)
  g__law_same := He.glo_ok X G (c.fact 15 rfl)
  g__law_table_moves := He.glo_ok X G (c.fact 16 rfl)
  g__law_told := He.glo_ok X G (c.fact 17 rfl)
  g_is_whole := He.glo_ok X G (c.fact 18 rfl)
  g_law := He.glo_ok X G (c.fact 19 rfl)
  z_ValueError := He.free_ok X G (c.fact 20 rfl)
  z_bool := He.free_ok X G (c.fact 21 rfl)
  z_enumerate := He.free_ok X G (c.fact 22 rfl)
  z_int := He.free_ok X G (c.fact 23 rfl)
  z_isinstance := He.free_ok X G (c.fact 24 rfl)
  z_len := He.free_ok X G (c.fact 25 rfl)
  z_list := He.free_ok X G (c.fact 26 rfl)
  z_range := He.free_ok X G (c.fact 27 rfl)
  z_str := He.free_ok X G (c.fact 28 rfl)
  z_tuple := He.free_ok X G (c.fact 29 rfl)
  z_type := He.free_ok X G (c.fact 30 rfl)
  c_MOST_ROWS := He.int_ok X G (c.fact 31 rfl)
  cl_Table := He.cls_ok (c.fact 32 rfl)
  x_BadValue := He.exc_ok (c.fact 33 rfl)
  xc_BadValue := excC_ok (c.fact 34 rfl)
  em_BadValue_PlayError := of_decide_eq_true (c.fact 35 rfl)
  ic_Table := insc_ok (c.fact 36 rfl)
  ki_BadValue_BadText := of_decide_eq_true (c.fact 37 rfl)
  ki_BadValue_BadValue := of_decide_eq_true (c.fact 38 rfl)
  ki_BadValue_NoMove := of_decide_eq_true (c.fact 39 rfl)
  ki_BadValue_Unknown := of_decide_eq_true (c.fact 40 rfl)
  ki_BadValue_ValueError := of_decide_eq_true (c.fact 41 rfl)
  mt_Table__moved := He.meth_ok (c.fact 42 rfl)
  mt_Table_moves := He.meth_ok (c.fact 43 rfl)
  mt_Table_parts := He.meth_ok (c.fact 44 rfl)
  mt_Table_value := He.meth_ok (c.fact 45 rfl)
  mk_Table := He.mkr_ok (c.fact 46 rfl)
  na_Table__place := He.noat_ok (c.fact 47 rfl)
  na_Table__rows := He.noat_ok (c.fact 48 rfl)
  d_law_digits := c.dfn 0 rfl
  d_law_cell := c.dfn 1 rfl
  d_law_goals := c.dfn 2 rfl
  d_law_rows := c.dfn 3 rfl
  d_is_whole := c.dfn 4 rfl
  d_check_row := c.dfn 5 rfl
  d_Table_d_init := c.dfn 6 rfl
  d_law_same := c.dfn 7 rfl
  d_Table_m_value := c.dfn 8 rfl
  d_law_table_moves := c.dfn 9 rfl
  d_law_told := c.dfn 10 rfl
  d_Table_p_moved := c.dfn 11 rfl
  d_Table_m_moves := c.dfn 12 rfl
  d_Table_m_parts := c.dfn 13 rfl
  d_law_asked := c.dfn 14 rfl
  d_law_bad_rows := c.dfn 15 rfl
  d_law_refused := c.dfn 16 rfl
  d_law_all_refused := c.dfn 17 rfl
  d_law := c.dfn 18 rfl
def loose : List PySem.Str := (["PlayError", "BadValue", "BadText", "Unknown", "NoMove", "is_whole", "MOST_ROWS", "Table", "_check_row", "_law_cell", "_law_digits", "_law_same", "_law_table_moves", "_law_told", "_law_refused", "_law_goals", "_law_rows", "_law_bad_rows", "_law_all_refused", "_law_asked"] : List PySem.Str)
abbrev R : PySem.W.OpenRow := PySem.W.OpenLaw.row PySem.Challenge.rw_sumsplay_k62_tables
abbrev hk : PySem.W.Hook := hookM 6 fs fn
def ob (s : PySem.W.SharedT) : He.AlD := obsMG 6 fs fn (HandSHeadRun.getT s)
theorem ob_eq (s : PySem.W.SharedT) : ob s = hk.obs s.abs := obsMG_eq (HandSHeadRun.getT_eq s)
theorem run (w : World) : HandSHeadRun.RunEq R (PySem.W.view R.prog [24]) hk ob 20000 loose w := by
  intro os
  kernel_rfl
theorem facts {P : Program} {w : World} {K : PySem.W.Frag} {h : Heap} {mg : Str → Option Value} {f : Addr} (X : K.In h) (G : h.Ns mainGlobals mg) (hfa : mg ("law" : Str) = some (.ref f)) (c : SaysM fs fn K) (hg : (He.Fa.glo "law").ok K = true) :
    ∃ fd : FuncData, (∀ (s : Shared) (v : Value), BindsTo s fd ⟨[v], []⟩ [("script", v)]) ∧ ∀ base : Heap, K.In base → base.Ns mainGlobals mg → FnOk P w K mg base CX0 10 f fd ["script"] (sp_law K) := by
  have T := txt_of X G c
  obtain ⟨fd, F⟩ := T.d_law
  have e := hfa.symm.trans (He.glo_ok X G hg)
  cases e
  have b := FunD.bindsA (ps := ["script"]) F fun _ _ _ _ _ _ us hl => match us, hl with | [_], _ => rfl
  refine ⟨fd, fun s v => b s [v] rfl, fun base _ _ => ?_⟩
  obtain ⟨fd2, F2, G2⟩ := (all_ok (P := P) (w := w) (base := base) T).ex
  have e2 : fd2 = fd := fd_same F2 F
  rw [← e2]; exact G2
end Mine
open PySem PySem.W PySem.Calls PyProof.Rows
set_option maxRecDepth 100000 in
set_option maxHeartbeats 0 in
theorem PySem.Challenge.cw_sumsplay_k62_tables_holds : PySem.Challenge.rw_sumsplay_k62_tables.Holds := by
  w_on; o_law
  refine HandSHeadRun.head_any (r := OpenLaw.row PySem.Challenge.rw_sumsplay_k62_tables) (q := view (OpenLaw.row PySem.Challenge.rw_sumsplay_k62_tables).prog [24]) (H := Mine.hk) (ob := Mine.ob) (M := 20000) (loose := Mine.loose) (d := HandSHeadRun.topDef (OpenLaw.row PySem.Challenge.rw_sumsplay_k62_tables).prog 24) (kwd := []) Mine.ob_eq
    (by kernel_rfl) (fun s => by kernel_rfl) Mine.run (by kernel_rfl) (by kernel_rfl) (by kernel_rfl) (by rfl) (by first | assumption | decide +kernel) (by decide +kernel) ⟨rfl, rfl, rfl, rfl, rfl, by decide +kernel⟩ ?hw ?hc
  case hw => w_witness2
  case hc =>
    refine L2.walk_ofE (l := PySem.Challenge.rw_sumsplay_k62_tables) (n := 63) (k := 10) (x := "script") (CX := L2.CX0) rfl (by decide) (by kernel_rfl) ⟨rfl, by decide, by decide⟩ ?F (fun _ _ _ _ z => z)
    intro w mg fa h Y G hmg0
    obtain ⟨K, KX, c⟩ := Y
    have hmg : mg ("law" : PySem.Str) = some (.ref fa) := by
      have e : (HandSHeadRun.topDef (OpenLaw.row PySem.Challenge.rw_sumsplay_k62_tables).prog 24).name = ("law" : PySem.Str) := by kernel_rfl
      rw [← e]
      exact hmg0
    obtain ⟨fd, hb, hF⟩ := Mine.facts (P := (PySem.Challenge.rw_sumsplay_k62_tables).prog) (w := w) KX G hmg c (c.fact 19 rfl)
    exact ⟨K, fd, Mine.sp_law K, KX, hb, fun H a ns hl _ hS => ⟨⟨a, ns, rfl, hS⟩, fun v H' e => e⟩, hF⟩
