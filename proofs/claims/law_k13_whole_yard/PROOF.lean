import PyProof.Rows.All
import Wide.All
import OpenK.AllK
import Wide.FinOn
import HandS.ForMost
import HandS.ForExc
import HandS.Defaults
import HandS.MakeKw
import HandS.MakeKwOnly
import HandS.IsInst
import HandS.Codes
import HandS.Property
import HandS.Evl
import HandS.Steps
import HandS.More
import HandS.WideBits
import HandS.Wide
import HandS.FStr
import HandS.HeadEnd
import HandS.HeadHook2
import HandS.HeadHook4
import HandS.HeadNt
import HandS.Head0
import HandS.Head1
import HandS.Head2
import HandS.ExcIs
import KE.KOpsOwn
import HandS.HeadHook3
import KE.BitLaws
import KE.KeyNested
import PyProof.Rows.TupDisplay
import HandS.Dict
import HandS.SetFor
import HandS.Strs
import PyProof.Rows.SetFrom
import HandS.TupAny
import HandS.SortInts
import HandS.WordsExc
import HandS.ExcOwn
import HandS.CallSlots
import HandS.HotCalls
import KE.KEqDeep
import HandS.Style
import KE.KSetDisp
import KE.GoesSet
import HandS.Iter
import KE.GoesEnum
import KE.GoesMore
import HandS.Star
import HandS.EndBits
import PySem.Challenge.RW_sumsplay_k13_whole_yard
set_option Elab.async false
set_option linter.all false
set_option maxRecDepth 100000
set_option maxHeartbeats 4000000
namespace Mine
open PySem PySem.Spec PyProof.Rows L2
/-! a target o.f -/
section
variable {X : Cx} {o : Expr} {f : Str} {pos : Pos} {ta : TE}
def gFld (K : PySem.W.Frag) (ta : TE) (f : Str) : TG := fun v σ H Q => ta σ H fun x H1 =>
  ∃ a C dx fs, x = V.ref a ∧ H1 a = some (HO.ins C dx fs) ∧ Cls K C ∧ NoAttr K C f ∧ fs.length < 1000 ∧ Q σ (upd H1 a (HO.ins C dx (putF f v fs)))
theorem pg_fld (ho : PE X o ta) : PG X (.Attribute o f pos) (gFld X.K ta f) := by
  constructor
  intro pins s σ H v u Q I rv hw
  rw [assign_Attribute]
  apply wpAny_bind
  apply wpAny_holding
  refine thn (ho.run pins s σ H _ I hw) ?_
  rintro ov s1 ⟨x, H1, I1, rx, a, C, dx, fs, rfl, ea, hc, hn, hl, q⟩
  cases (show ov = Value.ref a from rx)
  apply wpAny_bind
  apply wpAny_standAt
  apply wpAny_bind
  apply wpAny_holding
  refine setattr_ok I1 ea hc hn hl rv ?_
  intro s3 I3
  exact wpAny_release ⟨σ, _, I3, q⟩
end

open Evl (Ex)
/-! readings by short names -/
abbrev rAddI : R2 := rI0 fun i j => .int (i + j)
abbrev rSubI : R2 := rI0 fun i j => .int (i - j)
abbrev rMulI : R2 := rI CMul fun i j => .int (i * j)
abbrev rDivI : R2 := rI CDiv fun i j => .int (i / j)
abbrev rDivW : R2 := rI CDivW fun i j => .int (i / j)
abbrev rMulW : R2 := rI CMulW fun i j => .int (i * j)
abbrev rModI : R2 := rI (fun _ j => 0 < j) fun i j => .int (i % j)
abbrev rPowI : R2 := rI CPow fun i j => .int (i ^ j.toNat)
abbrev rShlI : R2 := rI CPow fun i j => .int (i * 2 ^ j.toNat)
abbrev rShrI : R2 := rI (fun _ j => 0 ≤ j) fun i j => .int (i / 2 ^ j.toNat)
abbrev rAndI : R2 := rI0 fun i j => .int (Builtin.bitAnd i j)
abbrev rOrI : R2 := rI0 fun i j => .int (Builtin.bitOr i j)
abbrev rXorI : R2 := rI0 fun i j => .int (Builtin.bitXor i j)
abbrev rLtI : R2 := rI0 fun i j => .bl (decide (i < j))
abbrev rLeI : R2 := rI0 fun i j => .bl (decide (i ≤ j))
abbrev rGtI : R2 := rI0 fun i j => .bl (decide (j < i))
abbrev rGeI : R2 := rI0 fun i j => .bl (decide (j ≤ i))
abbrev rNegI : V → Hp → VK → Prop := rU fun i => .int (-i)
def rIsTy : R2 := fun x y H Q => ∃ a b, x = V.ty a ∧
  y = V.ty b ∧ Q (.bl (decide (a = b))) H
def rIntI : List V → Hp → VK → Prop := fun xs H Q => ∃ i, xs = [V.int i] ∧ Q (.int i) H
def rAbsI : List V → Hp → VK → Prop := fun xs H Q => ∃ i, xs = [V.int i] ∧ Q (.int (if i < 0 then -i else i)) H
def rMax2 : List V → Hp → VK → Prop := fun xs H Q => ∃ i j, xs = [V.int i, V.int j] ∧
  Q (.int (if j > i then j else i)) H
def rMin2 : List V → Hp → VK → Prop := fun xs H Q => ∃ i j, xs = [V.int i, V.int j] ∧
  Q (.int (if j < i then j else i)) H
def rLenQ (K : PySem.W.Frag) : List V → Hp → VK → Prop := fun xs H Q => ∃ p ys, xs = [V.ref p] ∧
  (SqL K H p ys ∨ SqT K H p ys) ∧ Q (.int ys.length) H
def rLenS : List V → Hp → VK → Prop := fun xs H Q => ∃ z, xs = [V.str z] ∧ z.length ≤ sizeLine ∧
  Q (.int z.length) H
def rListQ (K : PySem.W.Frag) : List V → Hp → VK → Prop := fun xs H Q => ∃ p ys, xs = [V.ref p] ∧
  (SqL K H p ys ∨ SqT K H p ys) ∧ ∀ l, H l = none → Q (.ref l) (upd H l (.lst ys))
def rStrI : List V → Hp → VK → Prop := fun xs H Q => ∃ i, xs = [V.int i] ∧ i.natAbs.log2 < 1920 ∧
  Q (.str (toString i)) H
def rIsC (C : Addr) : List V → Hp → VK → Prop := fun xs H Q => ∃ a dx fs, xs = [V.ref a, V.ref C] ∧
  H a = some (HO.ins C dx fs) ∧ Q (.bl true) H
def rCatS : R2 := fun x y H Q => ∃ i j, x = V.str i ∧ y = V.str j ∧ i.length + j.length ≤ sizeLine ∧
  Q (.str (i ++ j)) H
section
variable {X : Cx}
theorem cr_intI : CallR X (.type "int") rIntI := fun pins s σ H xs us Q I r h =>
  call_int1 pins s σ H xs us Q I r (Or.inl h)
theorem cr_absI : CallR X (.builtin "abs") rAbsI := call_abs
theorem cr_max2 (hc : X.calm = true) : CallR X (.builtin "max") rMax2 := call_max2 hc
theorem cr_min2 (hc : X.calm = true) : CallR X (.builtin "min") rMin2 := call_min2 hc
theorem cr_lenQ : CallR X (.builtin "len") (rLenQ X.K) := call_len_seq
theorem cr_lenS : CallR X (.builtin "len") rLenS := call_len_str
theorem cr_listQ : CallR X (.type "list") (rListQ X.K) := call_list_of
theorem cr_strI : CallR X (.type "str") rStrI := call_str_int
theorem cr_isC {C : Addr} (c : C8.InsC X.K C) : CallR X (.builtin "isinstance") (rIsC C) := C8.call_isC c
theorem cst_ok {x : Str} {i : Int} (h : ∃ t, X.mg x = some (.int i t)) : ∃ u, X.mg x = some u ∧ RelV (.int i) u :=
  let ⟨t, e⟩ := h
  ⟨_, e, t, rfl⟩
end
/-! promises: what is asked, what is given, what is raised -/
def spR (pre : List V → Hp → Prop) (post : List V → Hp → V → Hp → Prop) : Sp := fun vs H Q _ =>
  pre vs H ∧ ∀ v H', post vs H v H' → Q v H'
def spX (pre : List V → Hp → Prop) (post : List V → Hp → V → Hp → Prop) (ex : List V → Hp → Value → Option Addr → Hp → Prop) : Sp := fun vs H Q E =>
  pre vs H ∧ (∀ v H', post vs H v H' → Q v H') ∧ ∀ c d H', ex vs H c d H' → E c d H'
structure DefOk (P : Program) (w : World) (K : PySem.W.Frag) (mg : Str → Option Value) (base : Heap) (CX : CXT) (k : Nat) (x qual : Str) (st : Stmt) (dvs : List V) (f : Addr) (ps : List Str) (sp : Sp) : Prop where
  ex : ∃ fd, FunD K x qual (defArgs st) (defBody st) (defScope st) dvs [] f fd ∧ FnOk P w K mg base CX k f fd ps sp
/-! readings, step by step, forwards -/
section
variable {σ : L2.St} {H : Hp} {Q : VK} {ta tb tc te tv : TE} {K : PySem.W.Frag} {D : Ends}
theorem k_var {i : Nat} {v : V} (h : σ[i]? = some (some v)) (q : Q v H) : tVar i σ H Q := ⟨v, h, q⟩
theorem k_c {v : V} (q : Q v H) : tC v σ H Q := q
theorem k_op {r : R2} (q : ta σ H fun x H1 => tb σ H1 fun y H2 => r x y H2 Q) : tOp r ta tb σ H Q := q
theorem k_un {r : V → Hp → VK → Prop} (q : ta σ H fun x H1 => r x H1 Q) : tUn r ta σ H Q := q
theorem k_I0 {g : Int → Int → V} {i j : Int} (q : Q (g i j) H) : rI0 g (.int i) (.int j) H Q := ⟨i, j, rfl, rfl, q⟩
theorem k_I {C : Int → Int → Prop} {g : Int → Int → V} {i j : Int} (c : C i j) (q : Q (g i j) H) : rI C g (.int i) (.int j) H Q := ⟨i, j, rfl, rfl, c, q⟩
theorem k_U {g : Int → V} {i : Int} (q : Q (g i) H) : rU g (.int i) H Q := ⟨i, rfl, q⟩
theorem k_eq {x y : V} (s : scal x y = true) (q : Q (.bl (decide (x = y))) H) : rEq x y H Q := ⟨s, q⟩
theorem k_ne {x y : V} (s : scal x y = true) (q : Q (.bl (!decide (x = y))) H) : rNe x y H Q := ⟨s, q⟩
theorem k_eqI {i j : Int} (q : Q (.bl (decide (i = j))) H) : rEq (.int i) (.int j) H Q := ⟨rfl, by
  have e : decide (V.int i = V.int j) = decide (i = j) := by simp
  rw [e]; exact q⟩
theorem k_eqB {i j : Bool} (q : Q (.bl (decide (i = j))) H) : rEq (.bl i) (.bl j) H Q := ⟨rfl, by
  have e : decide (V.bl i = V.bl j) = decide (i = j) := by simp
  rw [e]; exact q⟩
theorem k_neI {i j : Int} (q : Q (.bl (decide (i ≠ j))) H) : rNe (.int i) (.int j) H Q := ⟨rfl, by
  have e : (!decide (V.int i = V.int j)) = decide (i ≠ j) := by simp
  rw [e]; exact q⟩
theorem k_isTy {a b : String} (q : Q (.bl (decide (a = b))) H) : rIsTy (.ty a) (.ty b) H Q := ⟨a, b, rfl, rfl, q⟩
theorem k_isN {x : V} (q : Q (.bl (decide (x = .non))) H) : rIsN x .non H Q := ⟨rfl, q⟩
theorem k_notN {x : V} (q : Q (.bl (!decide (x = .non))) H) : rNotN x .non H Q := ⟨rfl, q⟩
theorem k_ixL {p : Addr} {xs : List V} {i : Int} {v : V} (h : SqL K H p xs) (e : atI xs i = some v) (q : Q v H) : rIxL K (.ref p) (.int i) H Q := ⟨p, xs, i, v, rfl, rfl, h, e, q⟩
theorem k_ixT {p : Addr} {xs : List V} {i : Int} {v : V} (h : SqT K H p xs) (e : atI xs i = some v) (q : Q v H) : rIxT K (.ref p) (.int i) H Q := ⟨p, xs, i, v, rfl, rfl, h, e, q⟩
theorem k_andV (q : ta σ H fun x H1 => ∃ c, x = .bl c ∧ if c = true then tb σ H1 Q else Q (.bl false) H1) : tAndV ta tb σ H Q := q
theorem k_orV (q : ta σ H fun x H1 => ∃ c, x = .bl c ∧ if c = true then Q (.bl true) H1 else tb σ H1 Q) : tOrV ta tb σ H Q := q
theorem k_notV (q : ta σ H fun x H1 => ∃ c, x = .bl c ∧ Q (.bl (!c)) H1) : tNotV ta σ H Q := q
theorem k_if {t : TT} (q : t σ H fun c H1 => if c = true then ta σ H1 Q else tb σ H1 Q) : tIf t ta tb σ H Q := q
theorem k_chain {r r' : R2} (q : ta σ H fun x H1 => tb σ H1 fun y H2 => r x y H2 fun z H3 => ∃ k, z = .bl k ∧ (if k = true then tc σ H3 fun w' H4 => r' y w' H4 Q else Q (.bl false) H3)) : tChain r r' ta tb tc σ H Q := q
theorem k_bl {P : Bool → Prop} {c : Bool} (q : P c) : ∃ k, V.bl c = V.bl k ∧ P k := ⟨c, rfl, q⟩
theorem k_tup {t : TA} (q : t σ H fun xs H1 => xs.length ≤ sizeLine ∧ ∀ p, H1 p = none → Q (.ref p) (upd H1 p (.tup xs))) : tTup t σ H Q := q
theorem k_lst {t : TA} (q : t σ H fun xs H1 => xs.length ≤ sizeLine ∧ ∀ p, H1 p = none → Q (.ref p) (upd H1 p (.lst xs))) : tLst t σ H Q := q
theorem k_cb {r : List V → Hp → VK → Prop} {t : TA} (q : t σ H fun vs H1 => r vs H1 Q) : tCB r t σ H Q := q
theorem k_nil {R : List V → Hp → Prop} (q : R [] H) : tNil σ H R := q
theorem k_cons {t : TA} {R : List V → Hp → Prop} (q : ta σ H fun x H1 => t σ H1 fun xs H2 => R (x :: xs) H2) : tCons ta t σ H R := q
theorem k_rInt {i : Int} (q : Q (.int i) H) : rIntI [.int i] H Q := ⟨i, rfl, q⟩
theorem k_rAbs {i : Int} (q : Q (.int (if i < 0 then -i else i)) H) : rAbsI [.int i] H Q := ⟨i, rfl, q⟩
theorem k_rMax {i j : Int} (q : Q (.int (if j > i then j else i)) H) : rMax2 [.int i, .int j] H Q := ⟨i, j, rfl, q⟩
theorem k_rMin {i j : Int} (q : Q (.int (if j < i then j else i)) H) : rMin2 [.int i, .int j] H Q := ⟨i, j, rfl, q⟩
theorem k_rLenL {p : Addr} {ys : List V} (h : SqL K H p ys) (q : Q (.int ys.length) H) : rLenQ K [.ref p] H Q := ⟨p, ys, rfl, Or.inl h, q⟩
theorem k_rLenT {p : Addr} {ys : List V} (h : SqT K H p ys) (q : Q (.int ys.length) H) : rLenQ K [.ref p] H Q := ⟨p, ys, rfl, Or.inr h, q⟩
theorem k_rStr {i : Int} (h : i.natAbs.log2 < 1920) (q : Q (.str (toString i)) H) : rStrI [.int i] H Q := ⟨i, rfl, h, q⟩
theorem k_rIsC {C a dx : Addr} {fs : List (Str × V)} (h : H a = some (.ins C dx fs)) (q : Q (.bl true) H) : rIsC C [.ref a, .ref C] H Q := ⟨a, dx, fs, rfl, h, q⟩
theorem k_isi {x c : V} {t u : Value} {b : Bool} (hc : ClsV c u) (ht : TyX K H x t) (e : PySem.W.kitOne K t u = some b) (q : Q (.bl b) H) : rIsi K [x, c] H Q := ⟨x, c, t, u, b, rfl, hc, ht, e, q⟩
theorem k_fld {a C dx : Addr} {fs : List (Str × V)} {f : Str} {v : V} (ha : ta σ H fun x H1 => x = .ref a ∧ H1 a = some (.ins C dx fs) ∧ Cls K C ∧ NoAttr K C f ∧ fs.lookup f = some v ∧ Q v H1)
    (mono : ∀ Q1 Q2 : VK, (∀ x H1, Q1 x H1 → Q2 x H1) → ta σ H Q1 → ta σ H Q2) : tFld K ta f σ H Q :=
  mono _ _ (fun _ _ ⟨h1, h2, h3, h4, h5, h6⟩ => ⟨a, C, dx, fs, v, h1, h2, h3, h4, h5, h6⟩) ha
theorem k_call {sp : Sp} {dvs : List V} {E : XK} {t : TA} (q : t σ H fun vs H1 => sp (vs ++ dvs) H1 Q E) : tCall sp dvs E t σ H Q := q
theorem k_meth {C : Addr} {m : Str} {sp : Sp} {dvs : List V} {E : XK} {t : TA} (q : ta σ H fun x H1 => ∃ a dx fs, x = .ref a ∧ H1 a = some (.ins C dx fs) ∧ fs.lookup m = none ∧ t σ H1 fun vs H2 => sp (x :: (vs ++ dvs)) H2 Q E) : tMeth C m sp dvs E ta t σ H Q := q
theorem k_make {C : Addr} {sp : Sp} {dvs : List V} {E : XK} {t : TA} (q : t σ H fun vs H1 => ∀ x dx, H1 x = none → H1 dx = none → dx ≠ x → sp (.ref x :: (vs ++ dvs)) (upd (upd H1 dx (.own x)) x (.ins C dx [])) (fun v H2 => v = .non ∧ Q (.ref x) H2) E) : tMake C sp dvs E t σ H Q := q
theorem k_prop {C : Addr} {sp : Sp} {dvs : List V} {E : XK} (q : ta σ H fun x H1 => ∃ a dx fs, x = .ref a ∧ H1 a = some (.ins C dx fs) ∧ sp (.ref a :: dvs) H1 Q E) : tProp C sp dvs E ta σ H Q := q
/-! tests -/
variable {t u : TT} {R : Bool → Hp → Prop}
theorem k_test (q : te σ H fun x H' => ∃ k, x = .bl k ∧ R k H') : tTest te σ H R := q
theorem k_B (q : te σ H fun x H' => ∃ k, x = .bl k ∧ R k H') : tB te σ H R := q
theorem k_and (q : t σ H fun c H1 => if c = true then u σ H1 R else R false H1) : tAnd t u σ H R := q
theorem k_or (q : t σ H fun c H1 => if c = true then R true H1 else u σ H1 R) : tOr t u σ H R := q
theorem k_not (q : t σ H fun c H1 => R (!c) H1) : tNot t σ H R := q
/-! statements -/
variable {t1 t2 : TS} {g : TG}
theorem k_seq (q : t1 { D with nx := t2 D } σ H) : tSeq t1 t2 D σ H := q
theorem k_next (q : D.nx σ H) : tNext D σ H := q
theorem k_asg (q : te σ H fun x H1 => g x σ H1 D.nx) : tAsg te g D σ H := q
theorem k_name {i : Nat} {v : V} {R : L2.St → Hp → Prop} (q : R (σ.set i (some v)) H) : gName i v σ H R := q
theorem k_ret (q : te σ H D.rt) : tRet te D σ H := q
theorem k_drop (q : te σ H fun _ H1 => D.nx σ H1) : tDrop te D σ H := q
theorem k_ifS (q : t σ H fun b H1 => if b = true then t1 D σ H1 else t2 D σ H1) : tIfS t t1 t2 D σ H := q
theorem k_gtup {n : Nat} {tg : TGs} {a : Addr} {xs : List V} {R : L2.St → Hp → Prop} (h : SqT K H a xs) (l : xs.length = n) (q : tg xs σ H R) : gTup K n tg (.ref a) σ H R := ⟨a, xs, rfl, h, l, q⟩
theorem k_gcons {tg : TG} {tr : TGs} {v : V} {r : List V} {R : L2.St → Hp → Prop} (q : tg v σ H fun σ' H' => tr r σ' H' R) : gCons tg tr (v :: r) σ H R := ⟨v, r, rfl, q⟩
theorem k_gnil {R : L2.St → Hp → Prop} (q : R σ H) : gNil [] σ H R := ⟨rfl, q⟩
theorem k_gfld {a C dx : Addr} {i : Nat} {fs : List (Str × V)} {f : Str} {v : V} {R : L2.St → Hp → Prop} (hs : σ[i]? = some (some (.ref a))) (h : H a = some (.ins C dx fs)) (hc : Cls K C) (hn : NoAttr K C f) (hl : fs.length < 1000) (q : R σ (upd H a (.ins C dx (putF f v fs)))) : gFld K (tVar i) f v σ H R :=
  ⟨_, hs, a, C, dx, fs, rfl, h, hc, hn, hl, q⟩
theorem k_fldv {a C dx : Addr} {i : Nat} {fs : List (Str × V)} {f : Str} {v : V} (hs : σ[i]? = some (some (.ref a))) (h : H a = some (.ins C dx fs)) (hc : Cls K C) (hn : NoAttr K C f) (hl : fs.lookup f = some v) (q : Q v H) : tFld K (tVar i) f σ H Q :=
  ⟨_, hs, a, C, dx, fs, v, rfl, h, hc, hn, hl, q⟩
theorem k_iteT {A B : Prop} (q : A) : if true = true then A else B := q
theorem k_iteF {A B : Prop} (q : B) : if false = true then A else B := by simpa using q
theorem k_pow12 (q : Q (.int 1000000000000) H) : rPowI (.int 10) (.int 12) H Q := k_I ⟨by decide, by decide, by decide⟩ q
theorem k_pow11 (q : Q (.int 100000000000) H) : rPowI (.int 10) (.int 11) H Q := k_I ⟨by decide, by decide, by decide⟩ q
theorem k_pow9 (q : Q (.int 1000000000) H) : rPowI (.int 10) (.int 9) H Q := k_I ⟨by decide, by decide, by decide⟩ q
theorem k_pow30 (q : Q (.int 1000000000000000000000000000000) H) : rPowI (.int 10) (.int 30) H Q := k_I ⟨by decide, by decide, by decide⟩ q
theorem k_pow18 (q : Q (.int 1000000000000000000) H) : rPowI (.int 10) (.int 18) H Q := k_I ⟨by decide, by decide, by decide⟩ q
theorem k_minL {i j : Int} (q : ∀ m, m ≤ i → m ≤ j → (m = i ∨ m = j) → Q (.int m) H) : rMin2 [.int i, .int j] H Q := by
  refine ⟨i, j, rfl, ?_⟩
  by_cases h : j < i
  · rw [if_pos h]; exact q j (by omega) (by omega) (Or.inr rfl)
  · rw [if_neg h]; exact q i (by omega) (by omega) (Or.inl rfl)
theorem k_maxL {i j : Int} (q : ∀ m, i ≤ m → j ≤ m → (m = i ∨ m = j) → Q (.int m) H) : rMax2 [.int i, .int j] H Q := by
  refine ⟨i, j, rfl, ?_⟩
  by_cases h : j > i
  · rw [if_pos h]; exact q j (by omega) (by omega) (Or.inr rfl)
  · rw [if_neg h]; exact q i (by omega) (by omega) (Or.inl rfl)
theorem k_shl1 {j : Int} (h : 0 ≤ j ∧ j ≤ 1000000) (q : ∀ m : Int, 1 ≤ m → m = 2 ^ j.toNat → Q (.int m) H) : rShlI (.int 1) (.int j) H Q := by
  refine k_I ⟨h.1, h.2, by decide⟩ ?_
  rw [Int.one_mul]
  refine q _ ?_ rfl
  have hp : (0 : Int) < 2 ^ j.toNat := Int.pow_pos (by decide)
  omega
theorem k_iteNT {A B : Prop} (q : B) : if (!true) = true then A else B := by simpa using q
theorem k_iteNF {A B : Prop} (q : A) : if (!false) = true then A else B := by simpa using q
theorem k_raise {E : XK} {c : Value} (q : E c none H) : tRaise E c D σ H := q
theorem k_iteD {p A B : Prop} [Decidable p] (h1 : p → A) (h2 : ¬ p → B) : if decide p = true then A else B := by
  by_cases h : p
  · rw [if_pos (decide_eq_true h)]; exact h1 h
  · rw [if_neg (by simpa using h)]; exact h2 h
theorem k_iteN {p A B : Prop} [Decidable p] (h1 : ¬ p → A) (h2 : p → B) : if (!decide p) = true then A else B := by
  by_cases h : p
  · rw [if_neg (by simpa using h)]; exact h2 h
  · rw [if_pos (by simpa using h)]; exact h1 h
theorem k_iteB {b : Bool} {A B : Prop} (h1 : b = true → A) (h2 : b = false → B) : if b = true then A else B := by
  cases b
  · rw [if_neg (by decide)]; exact h2 rfl
  · exact h1 rfl
theorem k_sq {a : Addr} {xs : List V} (h : H a = some (.lst xs)) : SqL K H a xs := Or.inl (Or.inl h)
theorem k_st {a : Addr} {xs : List V} (h : H a = some (.tup xs)) : SqT K H a xs := Or.inl (Or.inl h)
theorem k_while (W : Nat → L2.St → Hp → Prop) (m0 : Nat) (h0 : W m0 σ H)
    (hs : ∀ m σ H, W m σ H → t σ H fun b H1 => if b = true then ∃ N : L2.St → Hp → Prop, (∀ σ' H', N σ' H' → ∃ m', m' < m ∧ W m' σ' H') ∧
      t1 { D with nx := N, ct := N, bk := D.nx } σ H1 else D.nx σ H1) : tWhile t t1 D σ H := ⟨W, ⟨m0, h0⟩, hs⟩
/-- what a loop asks, by a word of its turns -/
def forK (g : TG) (tb : TS) (D : Ends) (σ : L2.St) : It → Hp → Prop := fun J H1 =>
  ∃ W : Nat → Nat → L2.St → Hp → Prop, (∃ m, W 0 m σ H1) ∧
    ∀ i m σ H, W i m σ H → (J.stop i H ∧ D.nx σ H) ∨ (J.go i H ∧
      ∃ N : L2.St → Hp → Prop, (∀ σ' H', N σ' H' → ∃ m', m' < m ∧ W (i + 1) m' σ' H') ∧
        ∀ x H', J.yld i H x H' → g x σ H' fun σ2 H2 => tb { D with nx := N, ct := N, bk := D.nx } σ2 H2)
theorem k_for {wi : TI} {g : TG} {tb : TS} (q : wi σ H (forK g tb D σ)) : tFor wi g tb D σ H := q
theorem k_rng1 {ta : TA} {R : It → Hp → Prop} (q : ta σ H fun vs H1 => ∃ j : Int, vs = [.int j] ∧
  -(2 ^ 62) ≤ j ∧ j < 2 ^ 62 ∧ R (Itr 0 j.toNat) H1) : iRng1 ta σ H R := q
theorem k_rng2 {ta : TA} {R : It → Hp → Prop} (q : ta σ H fun vs H1 => ∃ i j : Int, vs = [.int i, .int j] ∧
  (-(2 ^ 62) ≤ i ∧ i < 2 ^ 62 ∧ -(2 ^ 62) ≤ j ∧ j < 2 ^ 62) ∧ R (Itr i (j - i).toNat) H1) : iRng2 ta σ H R := q
theorem k_ilist {tl : TE} {R : It → Hp → Prop} (q : tl σ H fun x H1 => ∃ a, x = .ref a ∧
  (∃ xs, SqL K H1 a xs) ∧ R (Itl K a) H1) : iList K tl σ H R := q
theorem k_itup {tl : TE} {R : It → Hp → Prop} (q : tl σ H fun x H1 => ∃ a, x = .ref a ∧
  (∃ xs, SqT K H1 a xs) ∧ R (Itt K a) H1) : iTup K tl σ H R := q
theorem forK_range {g : TG} {tb : TS} {n : Nat} (Pv : Nat → L2.St → Hp → Prop) (h0 : Pv 0 σ H)
    (hs : ∀ (i : Nat) σ' H', i < n → Pv i σ' H' → g (.int (i : Int)) σ' H' fun σ2 H2 => tb { D with nx := Pv (i + 1), ct := Pv (i + 1), bk := D.nx } σ2 H2)
    (hd : ∀ σ' H', Pv n σ' H' → D.nx σ' H') : forK g tb D σ (Itr 0 n) H := by
  refine for_range (lo := 0) (n := n) Pv h0 (fun i σ' H' hi p => ?_) hd
  have e0 : (0 : Int) + (i : Int) = (i : Int) := Int.zero_add _
  rw [e0]
  exact hs i σ' H' hi p
theorem forK_list {g : TG} {tb : TS} {a : Addr} {xs : List V} (Pv : Nat → L2.St → Hp → Prop) (h0 : Pv 0 σ H)
    (hl : ∀ i σ' H', i ≤ xs.length → Pv i σ' H' → SqL K H' a xs)
    (hs : ∀ i x σ' H', xs[i]? = some x → Pv i σ' H' → g x σ' H' fun σ2 H2 => tb { D with nx := Pv (i + 1), ct := Pv (i + 1), bk := D.nx } σ2 H2)
    (hd : ∀ σ' H', Pv xs.length σ' H' → D.nx σ' H') : forK g tb D σ (Itl K a) H := for_list Pv h0 hl hs hd
end
section
variable {σ : L2.St} {H : Hp} {Q : VK} {ta te : TE} {K : PySem.W.Frag}
theorem k_bm {T : String} {r : V → List V → Hp → VK → Prop} {t : TA} (q : ta σ H fun x H1 => tyV K T x H1 ∧
  t σ H1 fun xs H2 => r x xs H2 Q) : tBM K T r ta t σ H Q := q
theorem k_bm0 {T : String} {r : V → List V → Hp → VK → Prop} (q : ta σ H fun x H1 => tyV K T x H1 ∧ r x [] H1 Q) : tBM0 K T r ta σ H Q := q
theorem k_tyl {l : Addr} {xs : List V} {P : Prop} (h : SqL K H l xs) (q : P) : tyV K "list" (.ref l) H ∧ P := ⟨Or.inl ⟨rfl, xs, h⟩, q⟩
theorem k_rApp {l : Addr} {xs : List V} {y : V} (h : H l = some (.lst xs)) (z : xs.length < sizeLine) (q : Q .non (upd H l (.lst (xs ++ [y])))) : rAppend (.ref l) [y] H Q := ⟨l, xs, y, rfl, rfl, h, z, q⟩
theorem k_sizeL {α : Type} {xs : List α} {f : α → V} (h : xs.length ≤ 100000) : (xs.map f).length < sizeLine := by
  rw [List.length_map]; exact Nat.lt_of_le_of_lt h (by decide)
end
section
variable {σ : L2.St} {H : Hp} {t u : TS} {D : Ends}
theorem k_cut (Mid : L2.St → Hp → Prop) (h : t { D with nx := Mid } σ H) (r : ∀ σ' H', Mid σ' H' → u D σ' H') : Evl.tCut t u D σ H := ⟨Mid, h, r⟩
end
theorem tr_step {H H' : Hp} {a : Addr} {o : HO} (e : Ex H H') (h : H a = some o) : H' a = some o := e a o h
section
variable {X : Cx} {CX : CXT} {k : Nat} {f C : Addr} {fd : FuncData} {ps : List Str} {sp : Sp} {E : XK}
/-- x op y, both instances of the class at C -/
def rMine (C : Addr) (sp : Sp) (E : XK) : R2 := fun x y H Q => ∃ a dx fs b dy gs,
  x = V.ref a ∧ y = V.ref b ∧ H a = some (HO.ins C dx fs) ∧ H b = some (HO.ins C dy gs) ∧ sp [x, y] H Q E
def rMine1 (C : Addr) (sp : Sp) (E : XK) : V → Hp → VK → Prop := fun x H Q => ∃ a dx fs,
  x = V.ref a ∧ H a = some (HO.ins C dx fs) ∧ sp [x] H Q E
theorem back_of {z : V} {u : Value} {s' : Shared} {R : Value → Shared → Prop} (r : RelV z u) (q : R u s') : PySem.W.CmpBack R u s' := by
  cases z with
  | non => cases r; exact q
  | bl b => cases r; exact q
  | int i => obtain ⟨t, rfl⟩ := r; exact q
  | str i => obtain ⟨t, rfl⟩ := r; exact q
  | byt i => obtain ⟨t, rfl⟩ := r; exact q
  | flt i => obtain ⟨t, rfl⟩ := r; exact q
  | ref a => cases r; exact q
  | ty n => cases r; exact q
theorem op_mine {op : Operator} (hc : PySem.W.selfFirst X.K C = true) (hm : Meth X.K C (PySem.dunder op.info.2) f) (F : FnOk X.prog X.w X.K X.mg X.base CX k f fd ps sp) (hr : Room k X.A) (hb : Binds X.K fd ps []) (hx : Passes CX X E) :
    OpR X (binaryOp op) (rMine C sp E) := by
  rintro pins s σ H x y v u Q I rx ry ⟨a, dx, fs, b, dy, gs, rfl, rfl, ha, hb', q⟩
  cases (show v = Value.ref a from rx)
  cases (show u = Value.ref b from ry)
  obtain ⟨mA, O, _⟩ := ins_get I.hok ha
  obtain ⟨mB, O', _⟩ := ins_get I.hok hb'
  obtain ⟨od, J, _⟩ := O.look
  obtain ⟨od', J', _⟩ := O'.look
  obtain ⟨m, hF⟩ := I.fr
  refine PySem.W.binop_K hF I.ok.mod.kin J J'.type hc hm.at_ hm.fn ?_
  refine wpAny_mono (run_fn (us := [.ref a, .ref b]) (vs := [.ref a, .ref b]) (dvs := []) (ds := []) F hr hb .nil hx I (.cons rfl (.cons rfl .nil)) q) ?_ (fun _ _ z => z)
  rintro u' s' ⟨z, H', I', rz, qz⟩
  exact back_of (R := EP X pins σ Q) rz ⟨z, H', I', rz, qz⟩
theorem un_mine (hm : Meth X.K C "__neg__" f) (F : FnOk X.prog X.w X.K X.mg X.base CX k f fd ps sp) (hr : Room k X.A) (hb : Binds X.K fd ps []) (hx : Passes CX X E) :
    UnR X (unaryOp .USub) (rMine1 C sp E) := by
  rintro pins s σ H x v Q I rx ⟨a, dx, fs, rfl, ha, q⟩
  cases (show v = Value.ref a from rx)
  obtain ⟨mA, O, _⟩ := ins_get I.hok ha
  obtain ⟨od, J, _⟩ := O.look
  obtain ⟨m, hF⟩ := I.fr
  refine PySem.W.ksp_neg hF I.ok.mod.kin J hm.at_ hm.fn ?_
  exact run_fn (us := [.ref a]) (vs := [.ref a]) (dvs := []) (ds := []) F hr hb .nil hx I (.cons rfl .nil) q
end
/-! small facts -/
theorem get_int {ns : List Int} {i : Nat} {y : V} (h : (ns.map V.int)[i]? = some y) : ∃ z, ns[i]? = some z ∧ y = .int z := by
  rw [List.getElem?_map] at h
  cases e : ns[i]? with
  | none => rw [e] at h; cases h
  | some z => rw [e] at h; exact ⟨z, rfl, (Option.some.inj h).symm⟩
theorem at_int {ns : List Int} {k : Int} (h0 : 0 ≤ k) (h1 : k < ns.length) : ∃ z, ns[k.toNat]? = some z ∧ atI (ns.map V.int) k = some (.int z) := by
  have hk : k.toNat < ns.length := by omega
  refine ⟨ns[k.toNat], by simp [hk], ?_⟩
  have e : ((k.toNat : Nat) : Int) = k := by omega
  have z : atI (ns.map V.int) ((k.toNat : Nat) : Int) = some (V.int ns[k.toNat]) := atI_nat (by simp [hk])
  rw [e] at z
  exact z
theorem ex_of {H H' : Hp} (e : H' = H) : Ex H H' := by rw [e]; exact Evl.Ex.refl H
theorem ex_upd {H : Hp} {p : Addr} {o : HO} (h : H p = none) : Ex H (upd H p o) := Evl.Ex.new h
theorem two_le : ∀ a b : V, [a, b].length ≤ sizeLine := fun _ _ => by show 2 ≤ sizeLine; decide
end Mine
namespace Mine
open PySem PySem.Spec PyProof.Rows L2
open PySem.W (Frag)
/-! the facts of the head: a list of tests of the written part, and the defs -/
def obsM (fs : List (Frag → Bool)) (fn : List He5.DefA) (K : Frag) : He.AlD :=
  ((fs.all fun f => f K) && fn.all fun d => d.ok K, fn.map fun d => He5.fnA K (d.at_ K))
def SaysM (fs : List (Frag → Bool)) (fn : List He5.DefA) (K : Frag) : Prop := obsM fs fn K = He5.valA fn
def obsMG (n : Nat) (fs : List (Frag → Bool)) (fn : List He5.DefA) (g : Addr → Option Obj) : He.AlD := obsM fs fn (He.frG g (He5.asA g n))
def hookM (n : Nat) (fs : List (Frag → Bool)) (fn : List He5.DefA) : PySem.W.Hook where
  α := He.AlD
  obs s := obsMG n fs fn s.heap.get?
  val _ := He5.valA fn
  says _ h := ∃ K : Frag, K.In h ∧ SaysM fs fn K
  of _ _ e := ⟨_, He.frG_in, e⟩
  keeps _ _ _ := fun ⟨K, hK, c⟩ k => ⟨K, PySem.W.Frag.In.keeps hK k, c⟩
theorem obsMG_eq {n : Nat} {fs : List (Frag → Bool)} {fn : List He5.DefA} {g : Addr → Option Obj} {s : Shared} (h : ∀ a, g a = s.heap.get? a) :
    obsMG n fs fn g = (hookM n fs fn).obs s := by
  have e : g = s.heap.get? := funext h
  subst e
  rfl
theorem SaysM.fact {fs : List (Frag → Bool)} {fn : List He5.DefA} {K : Frag} (c : SaysM fs fn K) (i : Nat) {f : Frag → Bool} (h : fs[i]? = some f) : f K = true := by
  have c1 : ((fs.all fun f => f K) && fn.all fun d => d.ok K) = true := congrArg (fun z : He.AlD => z.1) c
  exact List.all_eq_true.mp (Bool.and_eq_true_iff.mp c1).1 f (List.mem_of_getElem? h)
theorem SaysM.dfn {fs : List (Frag → Bool)} {fn : List He5.DefA} {K : Frag} (c : SaysM fs fn K) (i : Nat) {d : He5.DefA} (h : fn[i]? = some d) :
    ∃ fd, FunD K d.name d.qual d.params d.body d.scope (d.dvs K) (d.kws K) (d.at_ K) fd := by
  have c1 : ((fs.all fun f => f K) && fn.all fun d => d.ok K) = true := congrArg (fun z : He.AlD => z.1) c
  have c2 := List.all_eq_true.mp (Bool.and_eq_true_iff.mp c1).2 d (List.mem_of_getElem? h)
  have e : (fn.map fun d => He5.fnA K (d.at_ K)) = fn.map He5.DefA.val := congrArg (fun z : He.AlD => z.2) c
  have e2 := congrArg (fun l => l[i]?) e
  simp only [List.getElem?_map, h, Option.map_some, Option.some.injEq] at e2
  exact He5.DefA.funD e2 c2
end Mine
namespace Mine
open PySem PySem.Spec PyProof.Rows L2
theorem fd_same {K : PySem.W.Frag} {x q x' q' : Str} {a a' : Arguments} {b b' : List Stmt} {c c' : Scope} {d d' : List V} {k k' : List (Str × V)} {f : Addr} {fd fd' : FuncData} (F : FunD K x q a b c d k f fd) (G : FunD K x' q' a' b' c' d' k' f fd') : fd = fd' := by
  obtain ⟨_, _, _, _, _, _, _, _, _, _, _, l, _⟩ := F.ex
  obtain ⟨_, _, _, _, _, _, _, _, _, _, _, l', _⟩ := G.ex
  have e := Option.some.inj (l.symm.trans l')
  injection e with _ _ e
  injection e
end Mine
namespace Mine
open PySem PySem.Spec PyProof.Rows L2
def propG (K : PySem.W.Frag) (C f : Str) : Addr := match PySem.W.recIn K (He.ma K (He.ga K C) f) "property" with
  | some (.ref g :: _) => g
  | _ => 0
def propB (K : PySem.W.Frag) (C f : Str) : Bool :=
  He.eqO (PySem.W.findIn K (.ref (He.ga K C)) f) (some (some (.ref (He.ma K (He.ga K C) f)))) &&
  (He.eqO (PySem.W.specialIn K (.ref (He.ma K (He.ga K C) f)) "__get__") (some (some (.builtin "property.__get__"))) &&
  (decide (PySem.W.takesIn K (.ref (He.ma K (He.ga K C) f)) = some true) &&
  match PySem.W.recIn K (He.ma K (He.ga K C) f) "property" with
  | some (.ref _ :: _) => true
  | _ => false))
theorem prop_ok {K : PySem.W.Frag} {C f : Str} (h : propB K C f = true) : PropOf K (He.ga K C) f (He.ma K (He.ga K C) f) (propG K C f) := by
  unfold propB at h
  rw [Bool.and_eq_true, Bool.and_eq_true, Bool.and_eq_true] at h
  obtain ⟨h1, h2, h3, h4⟩ := h
  refine ⟨He.eqO_ok h1, He.eqO_ok h2, of_decide_eq_true h3, ?_⟩
  unfold propG
  split at h4
  · rename_i g rest e
    rw [e]; exact ⟨_, rfl⟩
  · cases h4
def inscB (K : PySem.W.Frag) (C : Str) : Bool :=
  (He.Fa.cls C).ok K && (He.eqO (PySem.W.findIn K (.ref (He.ga K C)) "__class__") (some (some (.builtin "object.__class__"))) &&
  (He.eqO (PySem.W.specialIn K (.builtin "object.__class__") "__get__") (some (some (.builtin "getset_descriptor.__get__"))) &&
  (decide (PySem.W.takesIn K (.builtin "object.__class__") = some true) && (decide (PySem.W.mroIn K (He.ga K C) (.type "object") = some true) &&
  decide (PySem.W.kitOne K (.ref (He.ga K C)) (.ref (He.ga K C)) = some true)))))
theorem insc_ok {K : PySem.W.Frag} {C : Str} (h : inscB K C = true) : C8.InsC K (He.ga K C) := by
  unfold inscB at h
  rw [Bool.and_eq_true, Bool.and_eq_true, Bool.and_eq_true, Bool.and_eq_true, Bool.and_eq_true] at h
  obtain ⟨h1, h2, h3, h4, h5, h6⟩ := h
  exact ⟨He.cls_ok h1, He.eqO_ok h2, He.eqO_ok h3, of_decide_eq_true h4, of_decide_eq_true h5, of_decide_eq_true h6⟩
end Mine
namespace Mine
open PySem PySem.Spec PyProof.Rows L2
open PySem.W (Frag)
/-! dicts, tuples and texts of the program's head -/
/-- d[k], d a dict of the head with texts as keys -/
def rKD (K : Frag) (d : Addr) : R2 := fun x y H Q => ∃ z u0 v0, x = .ref d ∧ y = .str z ∧ PySem.W.nsIn K d z = some (some u0) ∧ RelV v0 u0 ∧ Q v0 H
theorem ix_kd {X : Cx} {d : Addr} (D : ∃ es n, KDict X.K X.w d es n) : IxR X (rKD X.K d) := by
  obtain ⟨es, n, D⟩ := D
  rintro value slice pins s σ H x y v u Q I rx ry ⟨z, u0, v0, rfl, rfl, h1, h2, q⟩ hs
  have e : v = .ref d := rx
  subst e
  exact tail_any (T := "dict") (kd_type D I) F.slot_dict_getitem.lookup (op_item_kd D pins s σ H (.ref d) (.str z) (.ref d) u Q I rx ry ⟨z, u0, v0, rfl, rfl, h1, h2, q⟩) hs
/-- the items of a tuple of the head -/
def valsL : List V → List Value → Bool
  | [], [] => true
  | x :: xs, u :: us => He.relB x u && valsL xs us
  | _, _ => false
theorem valsL_ok : ∀ {xs : List V} {us : List Value}, valsL xs us = true → Vals xs us
  | [], [], _ => .nil
  | x :: xs, u :: us, h => by
    have h' : (He.relB x u && valsL xs us) = true := h
    rw [Bool.and_eq_true] at h'
    exact .cons (He.relB_ok h'.1) (valsL_ok h'.2)
  | [], _ :: _, h => by cases h
  | _ :: _, [], h => by cases h
def tupB (K : Frag) (a : Addr) (xs : List V) : Bool := match K.lookup a with
  | some ⟨cls, _, .seq its _, _⟩ => decide (cls = .type "tuple") && (decide (its.size ≤ 1000) && valsL xs its.toList)
  | _ => false
theorem tupB_ok {K : Frag} {a : Addr} {xs : List V} (h : tupB K a xs = true) (H : Hp) : SqT K H a xs := by
  unfold tupB at h
  split at h
  · rename_i cls dd its n sl e
    rw [Bool.and_eq_true, Bool.and_eq_true] at h
    exact Or.inr ⟨_, its, n, e, of_decide_eq_true h.1, rfl, Nat.le_trans (of_decide_eq_true h.2.1) (by decide), valsL_ok h.2.2⟩
  · cases h
/-- the tuple behind a key of a dict of the head -/
def kdA (K : Frag) (d k : Str) : Addr := match PySem.W.nsIn K (He.ga K d) k with
  | some (some (.ref a)) => a
  | _ => 0
def kdB (K : Frag) (d k : Str) (xs : List V) : Bool := match PySem.W.nsIn K (He.ga K d) k with
  | some (some (.ref a)) => tupB K a xs
  | _ => false
theorem kdB_ok {K : Frag} {d k : Str} {xs : List V} (h : kdB K d k xs = true) : PySem.W.nsIn K (He.ga K d) k = some (some (.ref (kdA K d k))) ∧ ∀ H, SqT K H (kdA K d k) xs := by
  unfold kdB at h
  unfold kdA
  split at h
  · rename_i a e
    rw [e]
    exact ⟨rfl, tupB_ok h⟩
  · cases h
theorem k_kd {K : Frag} {d k : Str} {xs : List V} {H : Hp} {Q : VK} (h : PySem.W.nsIn K (He.ga K d) k = some (some (.ref (kdA K d k))) ∧ ∀ H, SqT K H (kdA K d k) xs) (q : Q (.ref (kdA K d k)) H) : rKD K (He.ga K d) (.ref (He.ga K d)) (.str k) H Q :=
  ⟨k, _, .ref _, rfl, rfl, h.1, rfl, q⟩
theorem cst_okS {X : Cx} {x : Str} {z : Str} (h : ∃ t, X.mg x = some (.str z t)) : ∃ u, X.mg x = some u ∧ RelV (.str z) u :=
  let ⟨t, h⟩ := h; ⟨_, h, t, rfl⟩
/-! the head's facts with dicts -/
abbrev AlM : Type := He.AlD × List (Option (List (Option (Str × Int))))
def obsMT (fs : List (Frag → Bool)) (fn : List He5.DefA) (ts : List He.Tab) (K : Frag) : AlM := (obsM fs fn K, ts.map fun t => He.dicW K (t.1 K))
def valMT (fn : List He5.DefA) (ts : List He.Tab) (w : World) : AlM := (He5.valA fn, ts.map fun t => some (He.keysIn w.params t.2))
def SaysMT (fs : List (Frag → Bool)) (fn : List He5.DefA) (ts : List He.Tab) (w : World) (K : Frag) : Prop := obsMT fs fn ts K = valMT fn ts w
def obsMTG (n : Nat) (fs : List (Frag → Bool)) (fn : List He5.DefA) (ts : List He.Tab) (g : Addr → Option Obj) : AlM := obsMT fs fn ts (He.frG g (He5.asA g n))
@[reducible] def hookMT (n : Nat) (fs : List (Frag → Bool)) (fn : List He5.DefA) (ts : List He.Tab) : PySem.W.Hook where
  α := AlM
  obs s := obsMTG n fs fn ts s.heap.get?
  val w := valMT fn ts w
  says w h := ∃ K : Frag, K.In h ∧ SaysMT fs fn ts w K
  of _ _ e := ⟨_, He.frG_in, e⟩
  keeps _ _ _ := fun ⟨K, hK, c⟩ k => ⟨K, PySem.W.Frag.In.keeps hK k, c⟩
theorem obsMTG_eq {n : Nat} {fs : List (Frag → Bool)} {fn : List He5.DefA} {ts : List He.Tab} {g : Addr → Option Obj} {s : Shared} (h : ∀ a, g a = s.heap.get? a) :
    obsMTG n fs fn ts g = (hookMT n fs fn ts).obs s := by
  have e : g = s.heap.get? := funext h
  subst e
  rfl
theorem SaysMT.m {fs : List (Frag → Bool)} {fn : List He5.DefA} {ts : List He.Tab} {w : World} {K : Frag} (c : SaysMT fs fn ts w K) : SaysM fs fn K := congrArg (fun z : AlM => z.1) c
theorem SaysMT.tab {fs : List (Frag → Bool)} {fn : List He5.DefA} {ts : List He.Tab} {w : World} {K : Frag} (c : SaysMT fs fn ts w K) (i : Nat) {t : He.Tab} (h : ts[i]? = some t) : ∃ es n, KDict K w (t.1 K) es n := by
  have e := congrArg (fun z : AlM => z.2[i]?) c
  have e2 : (ts.map fun t => He.dicW K (t.1 K))[i]? = (ts.map fun t => some (He.keysIn w.params t.2))[i]? := e
  simp only [List.getElem?_map, h, Option.map_some, Option.some.injEq] at e2
  exact He.dicW_ok e2
end Mine
namespace Mine
open PySem PySem.Spec PyProof.Rows L2
open PySem.W (Frag)
/-! the hook at a written list of addresses: no walk over the heap -/
def obsLG (as : List Addr) (fs : List (Frag → Bool)) (fn : List He5.DefA) (g : Addr → Option Obj) : He.AlD := obsM fs fn (He.frG g as)
def hookL (as : List Addr) (fs : List (Frag → Bool)) (fn : List He5.DefA) : PySem.W.Hook where
  α := He.AlD
  obs s := obsLG as fs fn s.heap.get?
  val _ := He5.valA fn
  says _ h := ∃ K : Frag, K.In h ∧ SaysM fs fn K
  of _ _ e := ⟨_, He.frG_in, e⟩
  keeps _ _ _ := fun ⟨K, hK, c⟩ k => ⟨K, PySem.W.Frag.In.keeps hK k, c⟩
theorem obsLG_eq {as : List Addr} {fs : List (Frag → Bool)} {fn : List He5.DefA} {g : Addr → Option Obj} {s : Shared} (h : ∀ a, g a = s.heap.get? a) :
    obsLG as fs fn g = (hookL as fs fn).obs s := by
  have e : g = s.heap.get? := funext h
  subst e
  rfl
def obsLTG (as : List Addr) (fs : List (Frag → Bool)) (fn : List He5.DefA) (ts : List He.Tab) (g : Addr → Option Obj) : AlM := obsMT fs fn ts (He.frG g as)
@[reducible] def hookLT (as : List Addr) (fs : List (Frag → Bool)) (fn : List He5.DefA) (ts : List He.Tab) : PySem.W.Hook where
  α := AlM
  obs s := obsLTG as fs fn ts s.heap.get?
  val w := valMT fn ts w
  says w h := ∃ K : Frag, K.In h ∧ SaysMT fs fn ts w K
  of _ _ e := ⟨_, He.frG_in, e⟩
  keeps _ _ _ := fun ⟨K, hK, c⟩ k => ⟨K, PySem.W.Frag.In.keeps hK k, c⟩
theorem obsLTG_eq {as : List Addr} {fs : List (Frag → Bool)} {fn : List He5.DefA} {ts : List He.Tab} {g : Addr → Option Obj} {s : Shared} (h : ∀ a, g a = s.heap.get? a) :
    obsLTG as fs fn ts g = (hookLT as fs fn ts).obs s := by
  have e : g = s.heap.get? := funext h
  subst e
  rfl
end Mine
namespace Mine
open PySem L2
theorem cls_ty (T : String) : ClsV (.ty T) (.type T) := .ty T
theorem k_isiII {K : PySem.W.Frag} {H : Hp} {Q : VK} {i : Int} (q : Q (.bl true) H) : rIsi K [.int i, .ty "int"] H Q :=
  k_isi (cls_ty "int") (.base (.int i)) (kit_ty (b := "int") (r := true) (by decide +kernel)) q
theorem k_isiIB {K : PySem.W.Frag} {H : Hp} {Q : VK} {i : Int} (q : Q (.bl false) H) : rIsi K [.int i, .ty "bool"] H Q :=
  k_isi (cls_ty "bool") (.base (.int i)) (kit_ty (b := "bool") (r := false) (by decide +kernel)) q
theorem k_isiBB {K : PySem.W.Frag} {H : Hp} {Q : VK} {b : Bool} (q : Q (.bl true) H) : rIsi K [.bl b, .ty "bool"] H Q :=
  k_isi (cls_ty "bool") (.base (.bl b)) (kit_ty (b := "bool") (r := true) (by decide +kernel)) q
/-- the plain form of top / 2 ** power -/
def plainZ : Int → Nat → Int × Int
  | t, 0 => (t, 0)
  | t, n + 1 => if t % 2 = 0 then plainZ (t / 2) n else (t, ((n + 1 : Nat) : Int))
theorem plainZ_zero (t : Int) : plainZ t 0 = (t, 0) := rfl
theorem plainZ_even {t : Int} {n : Nat} (h : t % 2 = 0) : plainZ t (n + 1) = plainZ (t / 2) n := by
  show (if t % 2 = 0 then _ else _) = _
  rw [if_pos h]
theorem plainZ_odd {t : Int} {n : Nat} (h : ¬ t % 2 = 0) : plainZ t (n + 1) = (t, ((n + 1 : Nat) : Int)) := by
  show (if t % 2 = 0 then _ else _) = _
  rw [if_neg h]
theorem plainZ_le : ∀ (t : Int) (n : Nat), 0 ≤ (plainZ t n).2 ∧ (plainZ t n).2 ≤ n
  | t, 0 => by simp [plainZ]
  | t, n + 1 => by
    have ih := plainZ_le (t / 2) n
    by_cases h : t % 2 = 0
    · rw [plainZ_even h]; omega
    · rw [plainZ_odd h]; simp only; omega
/-- the plain form, in words: an even top stands with power 0 alone -/
theorem plainZ_plain : ∀ (t : Int) (n : Nat), (plainZ t n).2 = 0 ∨ ¬ (plainZ t n).1 % 2 = 0
  | t, 0 => Or.inl rfl
  | t, n + 1 => by
    by_cases h : t % 2 = 0
    · rw [plainZ_even h]; exact plainZ_plain _ _
    · rw [plainZ_odd h]; exact Or.inr h
/-- the value: t * 2 ^ p = top * 2 ^ n -/
theorem plainZ_val : ∀ (t : Int) (n : Nat), (plainZ t n).1 * 2 ^ n = t * 2 ^ (plainZ t n).2.toNat
  | t, 0 => by simp [plainZ]
  | t, n + 1 => by
    by_cases h : t % 2 = 0
    · rw [plainZ_even h]
      have ih := plainZ_val (t / 2) n
      have e : t = 2 * (t / 2) := by omega
      rw [Int.pow_succ, ← Int.mul_assoc, ih]
      generalize (plainZ (t / 2) n).2.toNat = k
      generalize t / 2 = u at e
      rw [e, Int.mul_comm (u * 2 ^ k) 2, Int.mul_assoc]
    · rw [plainZ_odd h]; rfl
/-- one plain form a number -/
theorem plain_one {t u : Int} {p q : Nat} (ht : p = 0 ∨ ¬ t % 2 = 0) (hu : q = 0 ∨ ¬ u % 2 = 0) (e : t * 2 ^ q = u * 2 ^ p) : t = u ∧ p = q := by
  have key : ∀ {t u : Int} {p q : Nat}, (q = 0 ∨ ¬ u % 2 = 0) → t * 2 ^ q = u * 2 ^ p → ¬ p < q := by
    intro t u p q hu e h
    have e1 : q = (q - p - 1) + 1 + p := by omega
    rw [e1, Int.pow_add, ← Int.mul_assoc] at e
    have e2 := Int.eq_of_mul_eq_mul_right (Int.ne_of_gt (Int.pow_pos (by decide))) e
    rw [Int.pow_succ, ← Int.mul_assoc] at e2
    omega
  have h1 := key hu e
  have h2 := key ht e.symm
  have h3 : p = q := by omega
  subst h3
  exact ⟨Int.eq_of_mul_eq_mul_right (Int.ne_of_gt (Int.pow_pos (by decide))) e, rfl⟩
/-- two numbers by any of their forms -/
theorem scale (a c : Int) (b d : Nat) : ∃ S : Int, 0 < S ∧ ∃ S' : Int, 0 < S' ∧ (plainZ a b).1 * 2 ^ (plainZ c d).2.toNat * S = a * 2 ^ d * S' ∧ (plainZ c d).1 * 2 ^ (plainZ a b).2.toNat * S = c * 2 ^ b * S' := by
  have v1 := plainZ_val a b
  have v2 := plainZ_val c d
  generalize plainZ a b = x at *
  generalize plainZ c d = y at *
  refine ⟨2 ^ b * 2 ^ d, Int.mul_pos (Int.pow_pos (by decide)) (Int.pow_pos (by decide)), 2 ^ x.2.toNat * 2 ^ y.2.toNat, Int.mul_pos (Int.pow_pos (by decide)) (Int.pow_pos (by decide)), ?_, ?_⟩
  · generalize (2 : Int) ^ y.2.toNat = Y at *
    generalize (2 : Int) ^ x.2.toNat = X at *
    generalize (2 : Int) ^ b = B at *
    generalize (2 : Int) ^ d = D at *
    have : x.1 * Y * (B * D) = (x.1 * B) * (Y * D) := by ac_rfl
    rw [this, v1]; ac_rfl
  · generalize (2 : Int) ^ y.2.toNat = Y at *
    generalize (2 : Int) ^ x.2.toNat = X at *
    generalize (2 : Int) ^ b = B at *
    generalize (2 : Int) ^ d = D at *
    have : y.1 * X * (B * D) = (y.1 * D) * (X * B) := by ac_rfl
    rw [this, v2]; ac_rfl
theorem lt_forms (a c : Int) (b d : Nat) : ((plainZ a b).1 * 2 ^ (plainZ c d).2.toNat < (plainZ c d).1 * 2 ^ (plainZ a b).2.toNat) ↔ (a * 2 ^ d < c * 2 ^ b) := by
  obtain ⟨S, hS, S', hS', e1, e2⟩ := scale a c b d
  constructor
  · intro h
    have h1 := Int.mul_lt_mul_of_pos_right h hS
    rw [e1, e2] at h1
    exact Int.lt_of_mul_lt_mul_right h1 (Int.le_of_lt hS')
  · intro h
    have h1 := Int.mul_lt_mul_of_pos_right h hS'
    rw [← e1, ← e2] at h1
    exact Int.lt_of_mul_lt_mul_right h1 (Int.le_of_lt hS)
theorem eq_forms (a c : Int) (b d : Nat) : ((plainZ a b).1 = (plainZ c d).1 ∧ (plainZ a b).2 = (plainZ c d).2) ↔ (a * 2 ^ d = c * 2 ^ b) := by
  obtain ⟨S, hS, S', hS', e1, e2⟩ := scale a c b d
  have w1 := plainZ_le a b
  have w2 := plainZ_le c d
  constructor
  · rintro ⟨h1, h2⟩
    have h3 : (plainZ a b).1 * 2 ^ (plainZ c d).2.toNat * S = (plainZ c d).1 * 2 ^ (plainZ a b).2.toNat * S := by rw [h1, h2]
    rw [e1, e2] at h3
    exact Int.eq_of_mul_eq_mul_right (Int.ne_of_gt hS') h3
  · intro h
    rw [h, ← e2] at e1
    have h1 := Int.eq_of_mul_eq_mul_right (Int.ne_of_gt hS) e1
    have p1 := plainZ_plain a b
    have p2 := plainZ_plain c d
    have r := plain_one (p := (plainZ a b).2.toNat) (q := (plainZ c d).2.toNat) (by omega) (by omega) h1
    exact ⟨r.1, by omega⟩
theorem bitAnd_one (x : Int) : Builtin.bitAnd x 1 = x % 2 := by
  exact PyProof.Rows.bitAnd_m1 x
end Mine
namespace Mine
open PySem PySem.Spec PyProof.Rows L2
open Evl (Ex)
/-- what of the class Dyadic's text is needed -/
structure FDyadic (K : PySem.W.Frag) : Prop where
  cl : Cls K (He.ga K "Dyadic")
  nt : NoAttr K (He.ga K "Dyadic") "_top"
  np : NoAttr K (He.ga K "Dyadic") "_power"
theorem ktp : ¬ (("_top" : Str) = "_power") := by decide +kernel
/-- its attributes -/
def dfs (t p : Int) : List (Str × V) := putF "_power" (.int p) (putF "_top" (.int t) [])
theorem dfs_top (t p : Int) : (dfs t p).lookup ("_top" : Str) = some (.int t) := by
  unfold dfs
  rw [lookup_putF, if_neg ktp, lookup_putF, if_pos rfl]
theorem dfs_power (t p : Int) : (dfs t p).lookup ("_power" : Str) = some (.int p) := by
  unfold dfs
  rw [lookup_putF, if_pos rfl]
theorem dfs_no (t p : Int) {m : Str} (h1 : ¬ m = "_power") (h2 : ¬ m = "_top") : (dfs t p).lookup m = none := by
  unfold dfs
  rw [lookup_putF, if_neg h1, lookup_putF, if_neg h2]
  all_goals rfl
theorem dfs_len (t p : Int) : (dfs t p).length < 1000 := by
  have h := length_putF "_power" (V.int p) (putF "_top" (V.int t) [])
  have h2 := length_putF "_top" (V.int t) []
  simp only [List.length_nil] at h2
  unfold dfs; omega
def okTop (a b : Int) : Prop := (-1000000000000 ≤ a ∧ a ≤ 1000000000000) ∧ 0 ≤ b ∧ b ≤ 40
/-- a Dyadic stands at a: its plain form's top and power -/
def DyAt (K : PySem.W.Frag) (H : Hp) (a : Addr) (t p : Int) : Prop := ∃ dx, H a = some (.ins (He.ga K "Dyadic") dx (dfs t p))
theorem DyAt.ex {K : PySem.W.Frag} {H H' : Hp} {a : Addr} {t p : Int} (h : DyAt K H a t p) (e : Ex H H') : DyAt K H' a t p :=
  let ⟨dx, q⟩ := h
  ⟨dx, e _ _ q⟩
theorem dy_inj {K : PySem.W.Frag} {H : Hp} {a : Addr} {t p t' p' : Int} (h : DyAt K H a t p) (h' : DyAt K H a t' p') : t = t' ∧ p = p' := by
  obtain ⟨dx, h⟩ := h
  obtain ⟨dx', h'⟩ := h'
  have e := Option.some.inj (h.symm.trans h')
  injection e with _ _ e
  have e1 := congrArg (fun l => List.lookup ("_top" : Str) l) e
  have e2 := congrArg (fun l => List.lookup ("_power" : Str) l) e
  simp only [dfs_top, dfs_power, Option.some.injEq, V.int.injEq] at e1 e2
  exact ⟨e1, e2⟩
theorem dy_tr {K : PySem.W.Frag} {H H' : Hp} {a : Addr} {t p : Int} (e : Ex H H') (h : DyAt K H a t p) : DyAt K H' a t p := h.ex e
theorem dy_prop {K : PySem.W.Frag} {H : Hp} {a : Addr} {t p : Int} {P : Addr → Prop} (h : DyAt K H a t p) (q : P a) :
    ∃ b dx fs, V.ref a = V.ref b ∧ H b = some (HO.ins (He.ga K "Dyadic") dx fs) ∧ P b :=
  let ⟨dx, e⟩ := h
  ⟨a, dx, _, rfl, e, q⟩
theorem dy_isC {K : PySem.W.Frag} {H : Hp} {Q : VK} {a : Addr} {t p : Int} (h : DyAt K H a t p) (q : Q (.bl true) H) : rIsC (He.ga K "Dyadic") [.ref a, .ref (He.ga K "Dyadic")] H Q :=
  let ⟨dx, e⟩ := h
  ⟨a, dx, _, rfl, e, q⟩
/-- x.m(..): what a method call asks of a Dyadic -/
theorem dy_meth {K : PySem.W.Frag} {H : Hp} {a : Addr} {t p : Int} {m : Str} {P : Prop} (h : DyAt K H a t p) (h1 : ¬ m = "_power") (h2 : ¬ m = "_top") (q : P) :
    ∃ b dx fs, V.ref a = V.ref b ∧ H b = some (HO.ins (He.ga K "Dyadic") dx fs) ∧ fs.lookup m = none ∧ P :=
  let ⟨dx, e⟩ := h
  ⟨a, dx, _, rfl, e, dfs_no _ _ h1 h2, q⟩
end Mine
namespace Mine
open PySem PySem.Spec PyProof.Rows L2
/-! dicts whose keys are pairs of tuples of ints and whose values are ints -/
abbrev Pr := List Int × List Int
def keyOf (p : Pr) : NestedKey := .tup [.tup (p.1.map .num), .tup (p.2.map .num)]
theorem nums_inj : ∀ {a b : List Int}, a.map NestedKey.num = b.map NestedKey.num → a = b
  | [], [], _ => rfl
  | [], _ :: _, e => by simp at e
  | _ :: _, [], e => by simp at e
  | x :: xs, y :: ys, e => by
    rw [List.map_cons, List.map_cons] at e
    injection e with e1 e2
    injection e1 with e1
    rw [e1, nums_inj e2]
theorem keyOf_inj {p q : Pr} (h : keyOf p = keyOf q) : p = q := by
  unfold keyOf at h
  injection h with h
  injection h with h1 h2
  injection h2 with h2 _
  injection h1 with h1
  injection h2 with h2
  exact Prod.ext (nums_inj h1) (nums_inj h2)
theorem nums_flat : ∀ l : List Int, NestedKey.depthAll (l.map .num) = 0
  | [] => rfl
  | x :: l => by
    rw [List.map_cons, NestedKey.depthAll, nums_flat l]
    rfl
theorem keyOf_deep (p : Pr) : (keyOf p).depth ≤ 8 := by
  unfold keyOf
  simp only [NestedKey.depth, NestedKey.depthAll, nums_flat]
  decide
/-- the tuple at b is the pair p of tuples of ints -/
def PrT (H : Hp) (b : Addr) (p : Pr) : Prop := ∃ c d, H b = some (.tup [.ref c, .ref d]) ∧ H c = some (.tup (p.1.map V.int)) ∧ H d = some (.tup (p.2.map V.int))
theorem PrT.ex {H H' : Hp} {b : Addr} {p : Pr} (t : PrT H b p) (k : ∀ c xs, H c = some (.tup xs) → H' c = some (.tup xs)) : PrT H' b p :=
  let ⟨c, d, h1, h2, h3⟩ := t
  ⟨c, d, k _ _ h1, k _ _ h2, k _ _ h3⟩
theorem nested_ints {h : Heap} : ∀ {ns : List Int} {us : List Value}, Vals (ns.map V.int) us → NestedAll h (ns.map .num) us
  | [], _, r => by rw [List.map_nil] at r; cases r; exact .nil
  | n :: ns, _, r => by
    rw [List.map_cons] at r
    cases r with
    | cons h t =>
      obtain ⟨tk, rfl⟩ := h
      exact .cons (.int n tk) (nested_ints t)
section
variable {P : Program} {w : World} {H : Hp} {h : Heap} {a b : Addr} {p : Pr}
theorem nested_tup {ns : List Int} (ok : HOk P w H h) (e : H a = some (.tup (ns.map V.int))) : NestedIs h (.tup (ns.map .num)) (.ref a) := by
  obtain ⟨_, its, r, o, h1, h2, n, h3⟩ := (show ObjOk P w H h a (.tup (ns.map V.int)) from ok a _ e)
  exact .tup h1 h2 h3 (by simpa using nested_ints r)
theorem PrT.key (t : PrT H b p) (ok : HOk P w H h) : (nestedKind P w).is h (keyOf p) b := by
  obtain ⟨c, d, e, ec, ed⟩ := t
  refine ⟨?_, keyOf_deep p⟩
  obtain ⟨_, its, r, o, h1, h2, n, h3⟩ := (show ObjOk P w H h b (.tup [.ref c, .ref d]) from ok b _ e)
  cases r with
  | cons r1 t1 =>
    cases t1 with
    | cons r2 t2 =>
      cases t2
      cases r1
      cases r2
      exact .tup h1 h2 h3 (.cons (nested_tup ok ec) (.cons (nested_tup ok ed) .nil))
end
abbrev Ent := Pr × Addr × Int
abbrev NP : List Ent → List (NestedKey × Addr × Value) → Prop := Paired fun p q => q.1 = keyOf p.1 ∧ q.2.1 = p.2.1 ∧ ∃ t, q.2.2 = Value.int p.2.2 t
def look (kvs : List Ent) (p : Pr) : Option Int := (kvs.find? fun e => decide (e.1 = p)).map (·.2.2)
theorem NP.look {kvs : List Ent} {xs : List (NestedKey × Addr × Value)} (r : NP kvs xs) (p : Pr) : RelO ((look kvs p).map V.int) ((atKey xs (keyOf p)).map (·.2)) := by
  induction r with
  | nil => exact True.intro
  | @cons e q es qs h t ih =>
    obtain ⟨h1, h2, tk, h3⟩ := h
    by_cases z : e.1 = p
    · have b : atKey (q :: qs) (keyOf p) = some q.2 := by simp [atKey, List.find?_cons, h1, z]
      have c : Mine.look (e :: es) p = some e.2.2 := by simp [Mine.look, List.find?_cons, z]
      rw [b, c]
      exact ⟨tk, h3⟩
    · have z' : ¬ q.1 = keyOf p := fun y => z (keyOf_inj (h1.symm.trans y))
      have b : atKey (q :: qs) (keyOf p) = atKey qs (keyOf p) := by simp [atKey, List.find?_cons, z']
      have c : Mine.look (e :: es) p = Mine.look es p := by simp [Mine.look, List.find?_cons, z]
      rw [b, c]
      exact ih
theorem NP.none_of {kvs : List Ent} {xs : List (NestedKey × Addr × Value)} (r : NP kvs xs) {p : Pr} (h : Mine.look kvs p = none) : atKey xs (keyOf p) = none := by
  have z := NP.look r p
  rw [h] at z
  cases q : atKey xs (keyOf p) with
  | none => rfl
  | some y => rw [q] at z; exact z.elim
theorem NP.len {kvs : List Ent} {xs : List (NestedKey × Addr × Value)} (r : NP kvs xs) : kvs.length = xs.length := Paired.length r
/-- what stands at a -/
def NdR (P : Program) (w : World) (h : Heap) (a : Addr) (kvs : List Ent) : Prop := kvs.length ≤ sizeLine ∧ (a == sysModules) = false ∧ ∃ xs : List (NestedKey × Addr × Value), NP kvs xs ∧
  ∃ o es ep, h.get? a = some o ∧ o.ExactDict ∧ o.data = .dict es ep ∧ es.toList = xs.map (entryOfKey (nestedKind P w)) ∧ (xs.map (·.1)).Nodup
def NdO (P : Program) (w : World) (a : Addr) (kvs : List Ent) : HO := .ext fun h => NdR P w h a kvs
def Keys (H : Hp) (kvs : List Ent) : Prop := ∀ e ∈ kvs, PrT H e.2.1 e.1
theorem NP.keys {P : Program} {w : World} {H : Hp} {h : Heap} (ok : HOk P w H h) {kvs : List Ent} {xs : List (NestedKey × Addr × Value)} (r : NP kvs xs) : (∀ e ∈ kvs, PrT H e.2.1 e.1) → ∀ x ∈ xs, (nestedKind P w).is h x.1 x.2.1 := by
  induction r with
  | nil => intro _ x hx; exact nomatch hx
  | @cons e q es qs hq t ih =>
    intro k x hx
    rcases List.mem_cons.mp hx with z | hx
    · subst z
      obtain ⟨h1, h2, _⟩ := hq
      rw [h1, h2]
      exact (k e List.mem_cons_self).key ok
    · exact ih (fun e' m => k e' (List.mem_cons_of_mem _ m)) x hx
theorem nd_at {P : Program} {w : World} {H : Hp} {h : Heap} {a : Addr} {kvs : List Ent} (ok : HOk P w H h) (e : H a = some (NdO P w a kvs)) (k : Keys H kvs) :
    kvs.length ≤ sizeLine ∧ (a == sysModules) = false ∧ ∃ xs, NP kvs xs ∧ h.DictOfH (nestedKind P w) a xs := by
  obtain ⟨z, y, xs, r, o, es, ep, h1, h2, h3, h4, h5⟩ := (ok a _ e).1
  exact ⟨z, y, xs, r, o, es, ep, h1, h2, h3, h4, NP.keys ok r k, h5⟩
theorem nd_new {P : Program} {w : World} {H : Hp} {h : Heap} {a : Addr} {kvs : List Ent} (R : NdR P w h a kvs) : ObjOk P w H h a (NdO P w a kvs) := by
  have ⟨_, _, _, _, o, _, _, ho, _⟩ := R
  refine ⟨R, ⟨o, ho⟩, fun h1 h2 p k => ?_⟩
  obtain ⟨z, y, xs, r, o, es, ep, g1, g⟩ := p
  exact ⟨z, y, xs, r, o, es, ep, k _ g1, g⟩
section
variable {X : Cx} {pins : List (Addr × Obj)} {σ : L2.St} {H : Hp} {s : Shared} {a b : Addr} {kvs : List Ent} {p : Pr} {A : Around} {E : Value → Shared → Prop}
theorem n_get {v : Int} {Q : Value → Shared → Prop} (hu : A.units + 9 < cLine) (I : Inv X pins σ H s) (e : H a = some (NdO X.prog X.w a kvs)) (k : Keys H kvs) (kb : PrT H b p) (l : look kvs p = some v)
    (h : ∀ w' s', Inv X pins σ H s' → RelV (.int v) w' → Q w' s') : wpAny (model X.prog X.w) A (getItem (.ref a) (.ref b)) Q E s := by
  obtain ⟨z, hd, xs, r, dd⟩ := nd_at I.hok e k
  have rl := NP.look r p
  rw [l] at rl
  cases q : atKey xs (keyOf p) with
  | none => rw [q] at rl; exact rl.elim
  | some y =>
    rw [q] at rl
    exact wpAny_getItem_heap (knd := nestedKind X.prog X.w) (show A.in1.units + 8 < cLine by rw [Around.in1_units]; omega) (kb.key I.hok) dd q (h y.2 _ (I.tok _) rl)
theorem n_notin {Q : Value → Shared → Prop} (hu : A.units + 9 < cLine) (I : Inv X pins σ H s) (e : H a = some (NdO X.prog X.w a kvs)) (k : Keys H kvs) (kb : PrT H b p)
    (h : ∀ s', Inv X pins σ H s' → Q (.bool (!(look kvs p).isSome)) s') : wpAny (model X.prog X.w) A (compareOp .NotIn (.ref b) (.ref a)) Q E s := by
  obtain ⟨z, hd, xs, r, dd⟩ := nd_at I.hok e k
  refine wpAny_notIn_heap (knd := nestedKind X.prog X.w) (show A.in1.units + 8 < cLine by rw [Around.in1_units]; omega) (kb.key I.hok) hd dd ?_
  have rl := NP.look r p
  have e2 : (atKey xs (keyOf p)).isSome = (look kvs p).isSome := by
    cases q : atKey xs (keyOf p) with
    | none =>
      cases q2 : look kvs p with
      | none => rfl
      | some v => rw [q, q2] at rl; exact rl.elim
    | some y =>
      cases q2 : look kvs p with
      | none => rw [q, q2] at rl; exact rl.elim
      | some v => rfl
  rw [e2]
  exact h _ (I.tok _)
theorem n_put {v : Int} {u : Value} {Q : Unit → Shared → Prop} (hu : A.units + 9 < cLine) (I : Inv X pins σ H s) (e : H a = some (NdO X.prog X.w a kvs)) (k : Keys H kvs) (kb : PrT H b p) (l : look kvs p = none) (hl : kvs.length < sizeLine) (ru : RelV (.int v) u)
    (h : ∀ s', Inv X pins σ (upd H a (NdO X.prog X.w a (kvs ++ [(p, b, v)]))) s' → Q () s') : wpAny (model X.prog X.w) A (setItem (.ref a) (.ref b) u) Q E s := by
  obtain ⟨z, hd, xs, r, dd⟩ := nd_at I.hok e k
  have hz : xs.length ≤ sizeLine := by rw [← NP.len r]; exact z
  have hn := NP.none_of r l
  refine wpAny_setItem_heap (hsz := hz) (knd := nestedKind X.prog X.w) (show A.in1.units + 8 < cLine by rw [Around.in1_units]; omega) (kb.key I.hok) dd fun h' dd' hs => h _ ?_
  rw [storedH_new hn] at dd'
  obtain ⟨q, es, ep, hq, h2, h3, h4, _, h5⟩ := dd'
  refine I.write (x := a) (e := a) (by rw [e]; exact True.intro) (.inl rfl) (fun c u hc y => (hs.2 c hc).trans y) ⟨q, hq⟩ (nd_new ⟨?_, hd, _, Paired.snoc r ⟨rfl, rfl, (show ∃ tk, u = Value.int v tk from ru)⟩, q, es, ep, hq, h2, h3, h4, h5⟩)
  rw [List.length_append, List.length_singleton]
  omega
end
/-! readings and rules -/
/-- d[k] -/
def tNGet (P : Program) (w : World) (td ty : TE) : TE := fun σ H Q => td σ H fun x H1 => ty σ H1 fun y H2 => ∃ a b kvs p v, x = V.ref a ∧ y = V.ref b ∧ H2 a = some (NdO P w a kvs) ∧ Keys H2 kvs ∧ PrT H2 b p ∧ look kvs p = some v ∧ Q (.int v) H2
/-- k not in d -/
def tNNot (P : Program) (w : World) (ty td : TE) : TE := fun σ H Q => ty σ H fun y H1 => td σ H1 fun x H2 => ∃ a b kvs p, x = V.ref a ∧ y = V.ref b ∧ H2 a = some (NdO P w a kvs) ∧ Keys H2 kvs ∧ PrT H2 b p ∧ Q (.bl (!(look kvs p).isSome)) H2
/-- d[k] = v, a new key -/
def sNPut (P : Program) (w : World) (td ty tv : TE) : TS := fun D σ H => tv σ H fun z H1 => td σ H1 fun x H2 => ty σ H2 fun y H3 => ∃ a b kvs p v, z = V.int v ∧ x = V.ref a ∧ y = V.ref b ∧ H3 a = some (NdO P w a kvs) ∧ Keys H3 kvs ∧ PrT H3 b p ∧ look kvs p = none ∧
  kvs.length < sizeLine ∧ D.nx σ (upd H3 a (NdO P w a (kvs ++ [(p, b, v)])))
/-- {k: v} -/
def tNDisp (P : Program) (w : World) (tk tv : TE) : TE := fun σ H Q => ∀ d, H d = none → tk σ (upd H d (NdO P w d [])) fun y H1 => tv σ H1 fun z H2 => ∃ b p v, y = V.ref b ∧ z = V.int v ∧ H2 d = some (NdO P w d []) ∧ PrT H2 b p ∧
  Q (.ref d) (upd H2 d (NdO P w d [(p, b, v)]))
section
variable {X : Cx} {o i e value : Expr} {pos pos' : Pos} {td ty tv tk : TE}
theorem nd_type {P : Program} {w : World} {s : Shared} {H : Hp} {a : Addr} {kvs : List Ent} (ok : HOk P w H s.heap) (e : H a = some (NdO P w a kvs)) : s.TypeIs (.ref a) "dict" := by
  obtain ⟨_, _, _, _, o, es, ep, h1, h2, _⟩ := (ok a _ e).1
  exact ⟨o, h1, h2.1⟩
theorem pe_nget (hu : X.A.units + 9 < cLine) (ho : PE X o td) (hi : PE X i ty) (hs : NoSl i) : PE X (.Subscript o i pos) (tNGet X.prog X.w td ty) := by
  refine ⟨fun pins s σ H Q I h => ?_⟩
  refine subD_of PySem.F.slot_dict_getitem.lookup hs (thn (ho.run pins s σ H _ I h) fun u s1 z1 => ?_)
  obtain ⟨x, H1, I1, rx, q1⟩ := z1
  refine thn (hi.run pins s1 σ H1 _ I1 q1) fun iv s2 z2 => ?_
  obtain ⟨y, H2, I2, ry, a, b, kvs, p, v, ex, ey, g, kk, kb, l, q2⟩ := z2
  subst ex ey
  obtain rfl : u = Value.ref a := rx
  obtain rfl : iv = Value.ref b := ry
  exact ⟨nd_type I2.hok g, n_get hu I2 g kk kb l fun w' s3 I3 rw' => ⟨.int v, H2, I3, rw', q2⟩⟩
theorem pc_nnot (hu : X.A.units + 9 < cLine) (hi : PE X i ty) (ho : PE X o td) : PC X .NotIn i o (tNNot X.prog X.w ty td) := by
  refine ⟨fun pins s σ H Q I h => ?_⟩
  refine thn (hi.run pins s σ H _ I h) fun iv s1 z1 => ?_
  obtain ⟨y, H1, I1, ry, q1⟩ := z1
  refine thn (ho.run pins s1 σ H1 _ I1 q1) fun u s2 z2 => ?_
  obtain ⟨x, H2, I2, rx, a, b, kvs, p, ex, ey, g, kk, kb, q2⟩ := z2
  subst ex ey
  obtain rfl : u = Value.ref a := rx
  obtain rfl : iv = Value.ref b := ry
  exact n_notin hu I2 g kk kb fun s3 I3 => ⟨.bl (!(look kvs p).isSome), H2, I3, rfl, q2⟩
theorem ps_nput (hu : X.A.units + 9 < cLine) (ho : PE X o td) (hi : PE X i ty) (hv : PE X value tv) (hs : swapsWith value (some (.Subscript o i pos')) pos.line X.env = pure false) :
    PS X (.Assign [.Subscript o i pos'] value pos) (sNPut X.prog X.w td ty tv) := by
  refine ⟨fun pins s σ H D I h => ?_⟩
  refine wpAny_Assign_Subscript (thn (hv.run pins s σ H _ I h) fun r s1 z1 => ?_) hs
  obtain ⟨z, H1, I1, rv, q1⟩ := z1
  refine thn (ho.run pins s1 σ H1 _ I1 q1) fun u s2 z2 => ?_
  obtain ⟨x, H2, I2, rx, q2⟩ := z2
  refine thn (hi.run pins s2 σ H2 _ I2 q2) fun iv s3 z3 => ?_
  obtain ⟨y, H3, I3, ry, a, b, kvs, p, v, ez, ex, ey, g, kk, kb, l, hl, q3⟩ := z3
  subst ex ey ez
  obtain rfl : u = Value.ref a := rx
  obtain rfl : iv = Value.ref b := ry
  exact n_put hu I3 g kk kb l hl rv fun s4 I4 => ⟨σ, _, I4, q3⟩
theorem pe_ndisp {k v : Expr} (hu : X.A.units + 9 < cLine) (hk : PE X k tk) (hv : PE X v tv) : PE X (.Dict [some k] [v] pos) (tNDisp X.prog X.w tk tv) := by
  refine ⟨fun pins s σ H Q I h => ?_⟩
  have hn := I.hok.fresh (Nat.le_refl s.heap.objs.size)
  have hb := I.big
  have R0 : NdR X.prog X.w (s.heap.push { cls := .type "dict", data := .dict #[] }) s.heap.objs.size [] :=
    ⟨Nat.zero_le _, beq_eq_false_iff_ne.mpr (Ne.symm (Nat.ne_of_lt hb)), [], .nil, _, #[], 0, Heap.get?_push_size _ rfl, ⟨rfl, rfl, rfl⟩, rfl, rfl, List.nodup_nil⟩
  have I1 := I.laid (a := s.heap.objs.size) (o := NdO X.prog X.w s.heap.objs.size []) (h' := s.heap.push { cls := .type "dict", data := .dict #[] }) (t' := s.toks) (fun _ _ q => Heap.get?_push_of_some _ q) (Nat.le_refl _) (nd_new R0)
  refine wpAny_Dict_any rfl rfl (by simp) (show 1 ≤ 15 by decide) ?_
  refine pairTrees_cons_walk (thn (hk.run pins _ σ _ _ I1 (h _ hn)) fun u s1 z1 => ?_)
  obtain ⟨y, H1, I2, ry, q1⟩ := z1
  refine thn (hv.run pins s1 σ H1 _ I2 q1) fun u2 s2 z2 => ?_
  obtain ⟨z, H2, I3, rz, b, p, n, ey, ez, g, kb, q2⟩ := z2
  subst ey ez
  obtain rfl : u = Value.ref b := ry
  refine pairTrees_nil_walk ?_
  unfold storeAll
  rw [List.forIn_cons]
  obtain ⟨zz, hd, xs, r, dd⟩ := nd_at I3.hok g (fun e m => nomatch m)
  cases r
  refine wpAny_bind (wpAny_bind (wpAny_dictSet_heap (hsz := Nat.zero_le _) (knd := nestedKind X.prog X.w) (show X.A.units + 8 < cLine by omega) (kb.key I3.hok) dd fun h' dd' hs => ?_))
  refine wpAny_pure ?_
  dsimp only
  rw [List.forIn_nil]
  refine wpAny_pure ⟨.ref s.heap.objs.size, _, ?_, rfl, q2⟩
  rw [storedH_new rfl] at dd'
  obtain ⟨q, es, ep, hq, h2, h3, h4, _, h5⟩ := dd'
  exact I3.write (x := s.heap.objs.size) (e := s.heap.objs.size) (by rw [g]; exact True.intro) (.inl rfl) (fun c u hc y => (hs.2 c hc).trans y) ⟨q, hq⟩ (nd_new ⟨(show 1 ≤ sizeLine by decide), hd, _, .cons ⟨rfl, rfl, (show ∃ tk, u2 = Value.int n tk from rz)⟩ .nil, q, es, ep, hq, h2, h3, h4, h5⟩)
end
end Mine
namespace Mine
open PySem PySem.Spec PyProof.Rows L2
open Sem (wp)
/-! set(xs) of a list of isI -/
abbrev emO (w : World) : Obj := { cls := .type "set", dict := none, data := .set #[] 0 (.fresh 0 0 (!w.params.followText "set-order")) }
section
variable {P : Program} {w : World} {A : Around} {E : Value → Shared → Prop} {s : Shared}
/-- the new set S holds the isI of ns, all else is kept -/
structure Filled (w : World) (h h' : Heap) (S : Addr) (ns : List Int) (c : Nat) : Prop where
  set : SetR w h' S (fun j => decide (j ∈ ns)) c
  few : c ≤ ns.length
  old : ∀ b o, h.get? b = some o → h'.get? b = some o
set_option maxHeartbeats 3200000 in
theorem set_of_ints {l : Addr} {xs : Array Value} (ns : List Int) {Q : Value → Shared → Prop} (calm : A.handled = none) (at_l : s.heap.IsList l xs) (isI : IntsAre xs.toList ns) (room : ns.length + 1 < scanBound)
    (q : ∀ (g : Heap) (tk c : Nat), Filled w s.heap g s.heap.objs.size ns c → Q (.ref s.heap.objs.size) { s with heap := g, toks := tk }) : wpAny (model P w) A (call (.type "set") [.ref l]) Q E s := by
  have many : xs.size = ns.length := by rw [← IntsAre.length isI, Array.length_toList]
  let h1 : Heap := s.heap.push (emO w)
  have hd : h1 = s.heap.push (emO w) := rfl
  have zS : h1.get? s.heap.objs.size = some (emO w) := Heap.get?_push_size _ rfl
  have sz1 : h1.objs.size = s.heap.objs.size + 1 := Heap.size_push ..
  have lt_l : l < s.heap.objs.size := let ⟨o, ho, _⟩ := at_l; Heap.lt_size ho
  have ty1 : Shared.TypeIs { s with heap := h1 } (.ref s.heap.objs.size) "set" := ⟨_, zS, rfl⟩
  have ls1 : h1.IsList l xs := at_l.push _
  clear_value h1
  obtain ⟨c0, t0, m0⟩ := F.called_set.mro
  have m1 := F.called_set.made; have m2 := F.called_set.sub; have m3 := F.called_set.notType; have m4 := F.called_set.canCreate
  have m5 := F.typeCall_set_1 (.ref l); have m6 := F.called_set.init.lookup; have m7 := F.called_set.init.bind (.ref s.heap.objs.size)
  refine wpAny_call (codeAny_of_tree (show wpAny _ _ (callAny (.type "set") _) _ _ _ from ?_))
  refine wpAny_pure ⟨Code.quiet_builtin _ (by decide +kernel), codeAny_builtin F.entry_type_call ?_⟩
  rw [Around.under_plain (weight_type_call_type "set" [.ref l] []) rfl]
  repeat (any_goals (first | assumption | wp_step))
  refine codeAny_mono (code_set_led1 (.ref l) (E := E) (Q₁ := fun v s' => v = .ref s.heap.objs.size ∧ s' = { s with heap := h1 }) ⟨rfl, by rw [hd]⟩) fun r s' hr => ?_
  rcases r with e | fl
  · exact hr
  cases fl with
  | ret v =>
    obtain ⟨rfl, rfl⟩ := hr
    repeat (any_goals (first | assumption | wp_step))
    refine codeAny_mono (codeAny_call_builtin (R := wants (fun v s' => v = .none ∧ ∃ g tk c, s' = { s with heap := g, toks := tk } ∧ Filled w s.heap g s.heap.objs.size ns c) E) F.called_set.init.plain F.entry_set_init (check_set_init_1 ty1 ?_)) fun r s' hr => ?_
    · obtain ⟨⟨oc, od, oa, os⟩, got, e1, n1, e2⟩ := at_l
      simp only at e1 e2
      subst e1; subst e2
      have got1 : h1.get? l = some { cls := .type "list", dict := od, data := .seq xs n1, slots := os } := by rw [hd]; exact Heap.get?_push_of_some _ got
      have k1 := F.sub_list_set; have k2 := F.sub_list_frozenset
      have k3 : (Value.type "list" == Value.type "dict") = false := by decide
      unfold Builtin.«set.__init__» noKeywords Builtin.Frozenset.updateFrom
      generalize hit : pyIter = IT
      wp_walk
      subst hit
      refine wpAny_pyIter_list ls1 (wpAny_bind (wpAny_runValue ?_))
      have calm3 : A.in1.in1.in1.handled = none := by simp [calm]
      have apart : l ≠ h1.objs.size := by rw [sz1]; exact Nat.ne_of_lt (Nat.lt_succ_of_lt lt_l)
      have notin : s.heap.objs.size ∉ [h1.objs.size, l] := by
        rw [sz1]
        intro m
        rcases List.mem_cons.mp m with e | m
        · exact absurd e (Nat.ne_of_lt (Nat.lt_succ_self _))
        · rw [List.mem_singleton] at m
          exact absurd lt_l (by rw [← m]; exact Nat.lt_irrefl _)
      refine set_update_ints ((Walks.list calm3 _ l apart xs).toS) s.heap.objs.size notin ns many room (fun i v hv => ?_) xs.size 0 _ (by omega) (Nat.zero_le _) ⟨⟨_, Heap.get?_push_size _ rfl, rfl, rfl⟩, ls1.push _⟩ ⟨0, Nat.le_refl 0, setR_new_at (Heap.get?_push_of_some _ zS)⟩ fun s' c moved le R => ?_
      · have hi : i < ns.length := by rw [← many]; exact (Array.getElem?_eq_some_iff.mp hv).1
        obtain ⟨t, e⟩ := PyProof.Rows.IntsAre.int_at isI i v (by rw [Array.getElem?_toList]; exact hv)
        exact ⟨ns[i], t, List.getElem?_eq_getElem hi, by rw [e, List.getD_eq_getElem?_getD, List.getElem?_eq_getElem hi]; rfl⟩
      · obtain ⟨g, g2, d2, tk, o2⟩ := s'
        obtain rfl : g2 = s.gens := moved.gens
        obtain rfl : d2 = s.drawn := moved.drawn
        obtain rfl : o2 = s.os := moved.os
        refine (show wpAny _ _ _ _ _ _ from wpAny_pure (show wpAny _ _ (ret Value.none) _ _ _ from wpAny_pure ⟨rfl, g, tk, c, rfl, R, by rw [← many]; exact le, fun b o e => ?_⟩))
        have lt := Heap.lt_size e
        refine moved.heap b o (fun m => ?_) (Heap.get?_push_of_some _ (by rw [hd]; exact Heap.get?_push_of_some _ e))
        rcases List.mem_cons.mp m with z | m
        · exact absurd lt (by rw [z]; exact Nat.lt_irrefl _)
        · rw [List.mem_singleton, sz1] at m
          exact absurd lt (by rw [m]; exact Nat.not_lt_of_le (Nat.le_succ _))
    · rcases r with e | fl
      · exact hr
      cases fl with
      | ret v =>
        obtain ⟨rfl, g, tk, c, rfl, R⟩ := hr
        repeat (any_goals (first | assumption | wp_step))
        exact q g tk c R
      | _ => exact hr.elim
  | _ => exact hr.elim
end
section
variable {X : Cx}
/-- set(xs), xs a list of ints -/
def rSetL (K : PySem.W.Frag) (w : World) : List V → Hp → VK → Prop := fun vs H Q => ∃ (l : Addr) (ns : List Int), vs = [V.ref l] ∧ SqL K H l (ns.map V.int) ∧ ns.length + 1 < scanBound ∧
  ∀ (p : Addr) (c : Nat), H p = none → c ≤ ns.length → Q (.ref p) (upd H p (SetO w p (fun j => decide (j ∈ ns)) c))
theorem cr_setL (hc : X.calm = true) : CallR X (.type "set") (rSetL X.K X.w) := by
  intro pins s σ H vs us Q I r h
  obtain ⟨l, ns, rfl, hl, hb, q⟩ := h
  rw [Vals.ref1 r]
  obtain ⟨its, rv, ⟨ob, n, ho, h1, _, h2⟩, hlen⟩ := I.list hl
  refine set_of_ints ns (I.ok.hd hc) ⟨ob, ho, h1, n, h2⟩ (ints_of_vals (by simpa using rv)) hb fun g tk c f => ?_
  have hn := I.hok.fresh (Nat.le_refl s.heap.objs.size)
  exact ⟨.ref s.heap.objs.size, _, I.laid (a := s.heap.objs.size) (o := SetO X.w s.heap.objs.size (fun j => decide (j ∈ ns)) c) (t' := tk) f.old (Nat.le_refl _) (setO_new f.set), rfl, q _ c hn f.few⟩
end
end Mine
namespace Mine
open PySem PySem.Spec PyProof.Rows L2
open Evl (Ex)
/-! yards: what stands in the heap -/
structure FYard (K : PySem.W.Frag) : Prop where
  cl : Cls K (He.ga K "Yard")
  nl : NoAttr K (He.ga K "Yard") "_lefts"
  nr : NoAttr K (He.ga K "Yard") "_rights"
  nh : NoAttr K (He.ga K "Yard") "_heights"
  nn : NoAttr K (He.ga K "Yard") "_numbers"
  nt : NoAttr K (He.ga K "Yard") "_turned"
structure Foot where
  y : Addr
  dx : Addr
  l : Addr
  r : Addr
  h : Addr
  n : Addr
  t : Addr
theorem klr : ¬ (("_lefts" : Str) = "_rights") := by decide +kernel
theorem klh : ¬ (("_lefts" : Str) = "_heights") := by decide +kernel
theorem kln : ¬ (("_lefts" : Str) = "_numbers") := by decide +kernel
theorem klt : ¬ (("_lefts" : Str) = "_turned") := by decide +kernel
theorem krh : ¬ (("_rights" : Str) = "_heights") := by decide +kernel
theorem krn : ¬ (("_rights" : Str) = "_numbers") := by decide +kernel
theorem krt : ¬ (("_rights" : Str) = "_turned") := by decide +kernel
theorem khn : ¬ (("_heights" : Str) = "_numbers") := by decide +kernel
theorem kht : ¬ (("_heights" : Str) = "_turned") := by decide +kernel
theorem knt : ¬ (("_numbers" : Str) = "_turned") := by decide +kernel
def yfs (F : Foot) : List (Str × V) := putF "_turned" (.ref F.t) (putF "_numbers" (.ref F.n) (putF "_heights" (.ref F.h) (putF "_rights" (.ref F.r) (putF "_lefts" (.ref F.l) []))))
theorem yfs_l (F : Foot) : (yfs F).lookup ("_lefts" : Str) = some (.ref F.l) := by
  unfold yfs
  rw [lookup_putF, if_neg klt, lookup_putF, if_neg kln, lookup_putF, if_neg klh, lookup_putF, if_neg klr, lookup_putF, if_pos rfl]
theorem yfs_r (F : Foot) : (yfs F).lookup ("_rights" : Str) = some (.ref F.r) := by
  unfold yfs
  rw [lookup_putF, if_neg krt, lookup_putF, if_neg krn, lookup_putF, if_neg krh, lookup_putF, if_pos rfl]
theorem yfs_h (F : Foot) : (yfs F).lookup ("_heights" : Str) = some (.ref F.h) := by
  unfold yfs
  rw [lookup_putF, if_neg kht, lookup_putF, if_neg khn, lookup_putF, if_pos rfl]
theorem yfs_n (F : Foot) : (yfs F).lookup ("_numbers" : Str) = some (.ref F.n) := by
  unfold yfs
  rw [lookup_putF, if_neg knt, lookup_putF, if_pos rfl]
theorem yfs_t (F : Foot) : (yfs F).lookup ("_turned" : Str) = some (.ref F.t) := by
  unfold yfs
  rw [lookup_putF, if_pos rfl]
theorem yfs_no (F : Foot) {m : Str} (h1 : ¬ m = "_turned") (h2 : ¬ m = "_numbers") (h3 : ¬ m = "_heights") (h4 : ¬ m = "_rights") (h5 : ¬ m = "_lefts") : (yfs F).lookup m = none := by
  unfold yfs
  rw [lookup_putF, if_neg h1, lookup_putF, if_neg h2, lookup_putF, if_neg h3, lookup_putF, if_neg h4, lookup_putF, if_neg h5]
  rfl
/-- refs to tuples of ints -/
def Rows (H : Hp) (xs : List V) (gs : List (List Int)) : Prop := xs.length = gs.length ∧ ∀ (i : Nat) (g : List Int), gs[i]? = some g → ∃ a, xs[i]? = some (.ref a) ∧ H a = some (.tup (g.map V.int))
theorem Rows.ex {H H' : Hp} {xs : List V} {gs : List (List Int)} (r : Rows H xs gs) (k : ∀ c ys, H c = some (.tup ys) → H' c = some (.tup ys)) : Rows H' xs gs :=
  ⟨r.1, fun i g e => let ⟨a, h1, h2⟩ := r.2 i g e; ⟨a, h1, k _ _ h2⟩⟩
theorem Rows.snoc {H : Hp} {xs : List V} {gs : List (List Int)} (r : Rows H xs gs) {a : Addr} {g : List Int} (e : H a = some (.tup (g.map V.int))) : Rows H (xs ++ [.ref a]) (gs ++ [g]) := by
  refine ⟨by rw [List.length_append, List.length_append, r.1]; rfl, fun i g' z => ?_⟩
  by_cases h : i < gs.length
  · rw [List.getElem?_append_left h] at z
    obtain ⟨b, h1, h2⟩ := r.2 i g' z
    exact ⟨b, by rw [List.getElem?_append_left (by rw [r.1]; exact h)]; exact h1, h2⟩
  · have hi : i = gs.length := by
      have := (List.getElem?_eq_some_iff.mp z).1
      rw [List.length_append, List.length_singleton] at this
      omega
    subst hi
    rw [List.getElem?_append_right (Nat.le_refl _), Nat.sub_self] at z
    have e2 : g' = g := by injection z with z; exact z.symm
    subst e2
    exact ⟨a, by rw [← r.1, List.getElem?_append_right (Nat.le_refl _), Nat.sub_self]; rfl, e⟩
/-- the entries of the dict of forms -/
def EntOf (G : List Pr) (kvs : List Ent) : Prop := kvs.length = G.length ∧ ∀ (i : Nat) (g : Pr), G[i]? = some g → ∃ b, kvs[i]? = some (g, b, (i : Int))
/-- a list of ints, strictly ascending, from 0 on below n -/
def Asc (n : Nat) (l : List Int) : Prop := l.Pairwise (· < ·) ∧ ∀ x ∈ l, 0 ≤ x ∧ x < (n : Int)
/-- the forms of a yard's games, one behind the other -/
structure Forms (G : List Pr) : Prop where
  zero : G[0]? = some ([], [])
  one : G.Nodup
  asc : ∀ (i : Nat) (g : Pr), G[i]? = some g → Asc i g.1 ∧ Asc i g.2
/-- the height k of a list of heights -/
def hat (hs : List Int) (k : Int) : Int := hs.getD k.toNat 0
/-- h is the height of the form g, by the heights of its options -/
def IsHt (hs : List Int) (g : Pr) (h : Int) : Prop := (g.1 ++ g.2 = [] ∧ h = 0) ∨ ∃ m, m ∈ (g.1 ++ g.2).map (hat hs) ∧ (∀ y ∈ (g.1 ++ g.2).map (hat hs), y ≤ m) ∧ h = 1 + m
def HtOk (G : List Pr) (hs : List Int) : Prop := ∀ (i : Nat) (g : Pr), G[i]? = some g → IsHt hs g (hat hs i)
structure YardAt (P : Program) (w : World) (K : PySem.W.Frag) (H : Hp) (F : Foot) (G : List Pr) (hv : List Int) (ts : List (Key × V)) : Prop where
  ins : H F.y = some (.ins (He.ga K "Yard") F.dx (yfs F))
  ls : ∃ xs, H F.l = some (.lst xs) ∧ Rows H xs (G.map (·.1))
  rs : ∃ xs, H F.r = some (.lst xs) ∧ Rows H xs (G.map (·.2))
  hs : H F.h = some (.lst (hv.map V.int)) ∧ hv.length = G.length
  ns : ∃ kvs, H F.n = some (NdO P w F.n kvs) ∧ Mine.Keys H kvs ∧ EntOf G kvs
  ts : H F.t = some (.dK ts)
  ne : F.l ≠ F.r ∧ F.l ≠ F.h ∧ F.r ≠ F.h
  ht : HtOk G hv
  G : Forms G
/-- not one of the yard's own objects -/
def Off (F : Foot) (c : Addr) : Prop := c ≠ F.l ∧ c ≠ F.r ∧ c ≠ F.h ∧ c ≠ F.n ∧ c ≠ F.t
/-- all but the yard's own objects stays -/
def Gr (F : Foot) (H H' : Hp) : Prop := ∀ c o, H c = some o → Off F c → H' c = some o
theorem Gr.refl (F : Foot) (H : Hp) : Gr F H H := fun _ _ h _ => h
theorem Gr.trans {F : Foot} {H H1 H2 : Hp} (a : Gr F H H1) (b : Gr F H1 H2) : Gr F H H2 := fun c o h f => b c o (a c o h f) f
theorem Gr.of {F : Foot} {H H' : Hp} (e : Ex H H') : Gr F H H' := fun c o h _ => e c o h
section
variable {P : Program} {w : World} {K : PySem.W.Frag} {H H' : Hp} {F : Foot} {G : List Pr} {hs : List Int} {ts : List (Key × V)}
theorem YardAt.ex (Y : YardAt P w K H F G hs ts) (e : Ex H H') : YardAt P w K H' F G hs ts :=
  ⟨e _ _ Y.ins, let ⟨xs, h1, h2⟩ := Y.ls; ⟨xs, e _ _ h1, h2.ex fun c ys => e c _⟩, let ⟨xs, h1, h2⟩ := Y.rs; ⟨xs, e _ _ h1, h2.ex fun c ys => e c _⟩, ⟨e _ _ Y.hs.1, Y.hs.2⟩,
    let ⟨kvs, h1, h2, h3⟩ := Y.ns; ⟨kvs, e _ _ h1, fun x m => (h2 x m).ex fun c ys => e c _, h3⟩, e _ _ Y.ts, Y.ne, Y.ht, Y.G⟩
/-- a fresh address is off -/
theorem YardAt.fresh (Y : YardAt P w K H F G hs ts) {c : Addr} (h : H c = none) : Off F c := by
  obtain ⟨xs, hl, _⟩ := Y.ls
  obtain ⟨ys, hr, _⟩ := Y.rs
  obtain ⟨kvs, hn, _⟩ := Y.ns
  exact ⟨(ne_of_none hl h).symm, (ne_of_none hr h).symm, (ne_of_none Y.hs.1 h).symm, (ne_of_none hn h).symm, (ne_of_none Y.ts h).symm⟩
/-- a tuple is off -/
theorem YardAt.tup (Y : YardAt P w K H F G hs ts) {c : Addr} {xs : List V} (h : H c = some (.tup xs)) : Off F c := by
  obtain ⟨zs, hl, _⟩ := Y.ls
  obtain ⟨ys, hr, _⟩ := Y.rs
  obtain ⟨kvs, hn, _⟩ := Y.ns
  exact ⟨ne_of h hl (by intro z; cases z), ne_of h hr (by intro z; cases z), ne_of h Y.hs.1 (by intro z; cases z), ne_of h hn (by intro z; cases z), ne_of h Y.ts (by intro z; cases z)⟩
theorem YardAt.meth (Y : YardAt P w K H F G hs ts) {m : Str} {Z : Prop} (h1 : ¬ m = "_turned") (h2 : ¬ m = "_numbers") (h3 : ¬ m = "_heights") (h4 : ¬ m = "_rights") (h5 : ¬ m = "_lefts") (q : Z) :
    ∃ b dx fs, V.ref F.y = V.ref b ∧ H b = some (HO.ins (He.ga K "Yard") dx fs) ∧ fs.lookup m = none ∧ Z := ⟨F.y, F.dx, _, rfl, Y.ins, yfs_no F h1 h2 h3 h4 h5, q⟩
end
/-! lists of ints -/
theorem asc_ext : ∀ {a b : List Int}, a.Pairwise (· < ·) → b.Pairwise (· < ·) → (∀ k, k ∈ a ↔ k ∈ b) → a = b
  | [], [], _, _, _ => rfl
  | [], y :: b, _, _, h => absurd ((h y).mpr List.mem_cons_self) (by simp)
  | x :: a, [], _, _, h => absurd ((h x).mp List.mem_cons_self) (by simp)
  | x :: a, y :: b, ha, hb, h => by
    obtain ⟨a1, a2⟩ := List.pairwise_cons.mp ha
    obtain ⟨b1, b2⟩ := List.pairwise_cons.mp hb
    have e : x = y := by
      have h1 := (h x).mp List.mem_cons_self
      have h2 := (h y).mpr List.mem_cons_self
      rcases List.mem_cons.mp h1 with e | m1
      · exact e
      · rcases List.mem_cons.mp h2 with e | m2
        · exact e.symm
        · have := b1 x m1; have := a1 y m2; omega
    subst e
    congr 1
    refine asc_ext a2 b2 fun k => ⟨fun m => ?_, fun m => ?_⟩
    · rcases List.mem_cons.mp ((h k).mp (List.mem_cons_of_mem _ m)) with e | m'
      · subst e; exact absurd (a1 k m) (Int.lt_irrefl _)
      · exact m'
    · rcases List.mem_cons.mp ((h k).mpr (List.mem_cons_of_mem _ m)) with e | m'
      · subst e; exact absurd (b1 k m) (Int.lt_irrefl _)
      · exact m'
theorem asc_low : ∀ {l : List Int} {lo : Int} {n : Nat}, l.Pairwise (· < ·) → (∀ x ∈ l, lo ≤ x ∧ x < lo + n) → l.length ≤ n
  | [], _, _, _, _ => Nat.zero_le _
  | x :: l, lo, n, h, b => by
    obtain ⟨h1, h2⟩ := List.pairwise_cons.mp h
    have bx := b x List.mem_cons_self
    have z := asc_low (l := l) (lo := x + 1) (n := (lo + n - (x + 1)).toNat) h2 fun y m => by
      have := h1 y m
      have := b y (List.mem_cons_of_mem _ m)
      omega
    rw [List.length_cons]
    omega
theorem Asc.len {n : Nat} {l : List Int} (h : Asc n l) : l.length ≤ n := asc_low (lo := 0) h.1 fun x m => by have := h.2 x m; omega
theorem Asc.up {n m : Nat} {l : List Int} (h : Asc n l) (le : n ≤ m) : Asc m l := ⟨h.1, fun x i => by have := h.2 x i; omega⟩
/-- a form is kept: there already, or the new last one -/
def Put (G : List Pr) (p : Pr) (i : Int) (G' : List Pr) : Prop := (∃ k : Nat, i = k ∧ G[k]? = some p ∧ G' = G) ∨ (p ∉ G ∧ i = G.length ∧ G' = G ++ [p])
theorem Put.get {G G' : List Pr} {p : Pr} {i : Int} (h : Put G p i G') : ∃ k : Nat, i = k ∧ G'[k]? = some p := by
  rcases h with ⟨k, e, h, rfl⟩ | ⟨_, e, rfl⟩
  · exact ⟨k, e, h⟩
  · exact ⟨G.length, e, by rw [List.getElem?_append_right (Nat.le_refl _), Nat.sub_self]; rfl⟩
theorem nodup_at {α : Type} {l : List α} (n : l.Nodup) {i j : Nat} {a : α} (h : l[i]? = some a) (h' : l[j]? = some a) : i = j := by
  obtain ⟨l1, e1⟩ := List.getElem?_eq_some_iff.mp h
  obtain ⟨l2, e2⟩ := List.getElem?_eq_some_iff.mp h'
  have pw := List.pairwise_iff_getElem.mp (show l.Pairwise (· ≠ ·) from n)
  rcases Nat.lt_trichotomy i j with c | c | c
  · exact absurd (e1.trans e2.symm) (pw i j l1 l2 c)
  · exact c
  · exact absurd (e2.trans e1.symm) (pw j i l2 l1 c)
theorem Put.one {G G1 G2 : List Pr} {p : Pr} {i j : Int} (n : G.Nodup) (h : Put G p i G1) (h' : Put G p j G2) : i = j ∧ G1 = G2 := by
  rcases h with ⟨k, rfl, h, rfl⟩ | ⟨h1, rfl, rfl⟩
  · rcases h' with ⟨k', rfl, h', rfl⟩ | ⟨h1', _, _⟩
    · exact ⟨by rw [nodup_at n h h'], rfl⟩
    · exact absurd (List.mem_of_getElem? h) h1'
  · rcases h' with ⟨k', rfl, h', rfl⟩ | ⟨_, rfl, rfl⟩
    · exact absurd (List.mem_of_getElem? h') h1
    · exact ⟨rfl, rfl⟩
theorem Forms.put {G G' : List Pr} {p : Pr} {i : Int} (f : Forms G) (h : Put G p i G') (a : Asc G.length p.1) (b : Asc G.length p.2) : Forms G' := by
  rcases h with ⟨k, _, _, rfl⟩ | ⟨n, _, rfl⟩
  · exact f
  · refine ⟨?_, ?_, fun j g e => ?_⟩
    · have := (List.getElem?_eq_some_iff.mp f.zero).1
      rw [List.getElem?_append_left this]; exact f.zero
    · rw [List.nodup_append]
      refine ⟨f.one, by simp, fun x hx y hy e => ?_⟩
      rw [List.mem_singleton] at hy
      subst hy; subst e
      exact n hx
    · by_cases hj : j < G.length
      · rw [List.getElem?_append_left hj] at e; exact f.asc j g e
      · have hj2 : j = G.length := by
          have := (List.getElem?_eq_some_iff.mp e).1
          rw [List.length_append, List.length_singleton] at this
          omega
        subst hj2
        rw [List.getElem?_append_right (Nat.le_refl _), Nat.sub_self] at e
        injection e with e
        subst e
        exact ⟨a, b⟩
theorem Put.len {G G' : List Pr} {p : Pr} {i : Int} (h : Put G p i G') : G.length ≤ G'.length ∧ G'.length ≤ G.length + 1 ∧ 0 ≤ i ∧ i < G'.length := by
  rcases h with ⟨k, rfl, h, rfl⟩ | ⟨_, rfl, rfl⟩
  · have := (List.getElem?_eq_some_iff.mp h).1
    exact ⟨Nat.le_refl _, Nat.le_succ _, by omega, by omega⟩
  · rw [List.length_append, List.length_singleton]
    exact ⟨by omega, by omega, by omega, by omega⟩
theorem EntOf.look {G : List Pr} {kvs : List Ent} (e : EntOf G kvs) (n : G.Nodup) {p : Pr} : (p ∉ G → Mine.look kvs p = none) ∧ ∀ k : Nat, G[k]? = some p → Mine.look kvs p = some (k : Int) := by
  have mem : ∀ x ∈ kvs, ∃ i : Nat, G[i]? = some x.1 ∧ x.2.2 = (i : Int) := fun x m => by
    obtain ⟨i, hi, e1⟩ := List.mem_iff_getElem.mp m
    have lt : i < G.length := by rw [← e.1]; exact hi
    obtain ⟨b, e2⟩ := e.2 i G[i] (List.getElem?_eq_getElem lt)
    have e3 : kvs[i]? = some x := by rw [List.getElem?_eq_getElem hi, e1]
    rw [e3] at e2
    injection e2 with e2
    subst e2
    exact ⟨i, List.getElem?_eq_getElem lt, rfl⟩
  constructor
  · intro h
    unfold Mine.look
    rw [List.find?_eq_none.mpr]
    · rfl
    · intro x m z
      have z := of_decide_eq_true z
      obtain ⟨i, h1, _⟩ := mem x m
      exact h (z ▸ List.mem_of_getElem? h1)
  · intro k hk
    unfold Mine.look
    cases q : kvs.find? (fun e => decide (e.1 = p)) with
    | none =>
      obtain ⟨b, e2⟩ := e.2 k p hk
      have := List.find?_eq_none.mp q _ (List.mem_of_getElem? e2)
      simp at this
    | some x =>
      have h1 := List.find?_some q
      have h1 : x.1 = p := of_decide_eq_true h1
      obtain ⟨i, h2, h3⟩ := mem x (List.mem_of_find?_eq_some q)
      rw [h1] at h2
      have : i = k := nodup_at n h2 hk
      subst this
      show some x.2.2 = _
      rw [h3]
theorem EntOf.snoc {G : List Pr} {kvs : List Ent} (e : EntOf G kvs) (p : Pr) (b : Addr) : EntOf (G ++ [p]) (kvs ++ [(p, b, (G.length : Int))]) := by
  refine ⟨by rw [List.length_append, List.length_append, e.1]; rfl, fun i g h => ?_⟩
  by_cases hi : i < G.length
  · rw [List.getElem?_append_left hi] at h
    obtain ⟨c, h1⟩ := e.2 i g h
    exact ⟨c, by rw [List.getElem?_append_left (by rw [e.1]; exact hi)]; exact h1⟩
  · have hi2 : i = G.length := by
      have := (List.getElem?_eq_some_iff.mp h).1
      rw [List.length_append, List.length_singleton] at this
      omega
    subst hi2
    rw [List.getElem?_append_right (Nat.le_refl _), Nat.sub_self] at h
    injection h with h
    subst h
    exact ⟨b, by rw [← e.1, List.getElem?_append_right (Nat.le_refl _), Nat.sub_self]; rfl⟩
theorem hat_left {hs : List Int} {x k : Int} (h0 : 0 ≤ k) (h1 : k < hs.length) : hat (hs ++ [x]) k = hat hs k := by
  unfold hat
  rw [List.getD_eq_getElem?_getD, List.getElem?_append_left (by omega), ← List.getD_eq_getElem?_getD]
theorem hat_new (hs : List Int) (x : Int) : hat (hs ++ [x]) (hs.length : Nat) = x := by
  unfold hat
  rw [List.getD_eq_getElem?_getD, Int.toNat_natCast, List.getElem?_append_right (Nat.le_refl _), Nat.sub_self]
  rfl
theorem hats_left {hs : List Int} {x : Int} {n : Nat} {l : List Int} (a : ∀ k ∈ l, 0 ≤ k ∧ k < (n : Int)) (le : n ≤ hs.length) : l.map (hat (hs ++ [x])) = l.map (hat hs) := by
  refine List.map_congr_left fun k m => ?_
  have := a k m
  exact hat_left this.1 (by omega)
theorem Asc.both {n : Nat} {g : Pr} (a : Asc n g.1) (b : Asc n g.2) : ∀ k ∈ g.1 ++ g.2, 0 ≤ k ∧ k < (n : Int) := fun k m => by
  rcases List.mem_append.mp m with h | h
  · exact a.2 k h
  · exact b.2 k h
theorem HtOk.snoc {G : List Pr} {hs : List Int} (o : HtOk G hs) (l : hs.length = G.length) (f : Forms G) {p : Pr} (a : Asc G.length p.1) (b : Asc G.length p.2) {h : Int} (n : IsHt hs p h) : HtOk (G ++ [p]) (hs ++ [h]) := by
  intro i g e
  by_cases hi : i < G.length
  · rw [List.getElem?_append_left hi] at e
    obtain ⟨a1, a2⟩ := f.asc i g e
    rw [hat_left (by omega) (by omega)]
    unfold IsHt
    rw [hats_left (Asc.both a1 a2) (by omega)]
    exact o i g e
  · have hi2 : i = G.length := by
      have := (List.getElem?_eq_some_iff.mp e).1
      rw [List.length_append, List.length_singleton] at this
      omega
    subst hi2
    rw [List.getElem?_append_right (Nat.le_refl _), Nat.sub_self] at e
    injection e with e
    subst e
    rw [← l, hat_new]
    unfold IsHt
    rw [hats_left (Asc.both a b) (by omega)]
    exact n
/-- the height of a new game -/
def Hgt (G : List Pr) (hs : List Int) (p : Pr) (G' : List Pr) (hs' : List Int) : Prop := (p ∈ G ∧ hs' = hs) ∨ (p ∉ G ∧ ∃ m, hs' = hs ++ [1 + m] ∧ m ∈ (p.1 ++ p.2).map (hat hs) ∧ ∀ y ∈ (p.1 ++ p.2).map (hat hs), y ≤ m)
end Mine
namespace Mine
open PySem PySem.Spec PyProof.Rows L2
/-! sorted(a set of ints), up to a thousand of them -/
theorem raw_iv (v : Value) (h : ∃ k tk, v = Value.int k tk) : Builtin.Re.reRawOf v = SrtO.iv v := by
  obtain ⟨k, tk, rfl⟩ := h; rfl
section
variable {P : Program} {w : World} {A : Around} {E : Value → Shared → Prop} {s : Shared}
set_option maxHeartbeats 1600000 in
theorem set_in_order {a : Addr} {S : Int → Bool} {n : Nat} {Q : Value → Shared → Prop} (r : SetR w s.heap a S n) (calm : A.handled = none) (few : n ≤ 1000)
    (q : ∀ (s' : Shared) (p : Addr) (out : Array Value) (c : Nat) (ns : List Int), (∀ b o, s.heap.get? b = some o → s'.heap.get? b = some o) → s'.gens = s.gens → s'.os = s.os → s.heap.objs.size ≤ p →
      s'.heap.get? p = some (seqObj "list" out c) → IntsAre out.toList ns → ns.Pairwise (· < ·) → (∀ k, k ∈ ns ↔ S k = true) → ns.length = n → Q (.ref p) s') :
    wpAny (model P w) A (call (.builtin "sorted") [.ref a]) Q E s := by
  obtain ⟨o, es, ep, t, ho, hex, hd, g, one, mem, hb, hf, cnt, ris, led⟩ := r
  refine Calls.call_function_entry kind_sorted plain_sorted entry_sorted (args_sorted1 _) ?_
  unfold Builtin.«sorted»
  refine wpAny_bind (m := checkCount "sorted" 1 1 _) (wpAny_pure ?_)
  refine wpAny_bind (collect_set (A := A.in1) calm ⟨o, ho, hex.1, hd⟩ hf hb ris led fun s1 vs old hz gens1 os1 pm => ?_)
  have many : vs.length = n := by rw [pm.length_eq, List.length_map, Array.length_toList]; exact cnt
  have isI : ∀ v ∈ vs, ∃ k tk, v = Value.int k tk := fun v hv => by
    obtain ⟨e, he, z⟩ := List.mem_map.mp (pm.mem_iff.mp hv)
    obtain ⟨k, tk, h1, _⟩ := g e he
    exact ⟨k, tk, by rw [← z]; exact h1⟩
  have isL := SrtO.ints_iv isI
  have keys : (vs.map SrtO.iv).Perm (es.toList.map L2.keyOf) := by
    have z := pm.map Builtin.Re.reRawOf
    rw [List.map_map] at z
    have e : vs.map Builtin.Re.reRawOf = vs.map SrtO.iv := List.map_congr_left fun v hv => raw_iv v (isI v hv)
    rw [e] at z
    exact z
  have line : vs.length ≤ sizeLine := by rw [many]; exact Nat.le_trans few (by decide)
  refine wpAny_bind (wpAny_newList ?_ line)
  have at_l : (s1.heap.push (seqObj "list" vs.toArray 0)).get? s1.heap.objs.size = some (seqObj "list" vs.toArray 0) := Heap.get?_push_size _ rfl
  refine wpAny_bind (wpAny_holding (wpAny_call_entry slot_list_sort ⟨_, at_l, rfl⟩ entry_list_sort (SrtO.list_sort_ord SrtO.swo_int at_l line (fun h2 => SrtO.ints_sortable isL h2) fun out h1 h2 => ⟨_, rfl, ?_⟩) (args_list_sort _)))
  obtain ⟨k1, k2, k3⟩ := SrtO.ints_out isL h1 h2
  obtain ⟨c, hc⟩ := sortedHeap_at (vs := vs) (out := out.toArray) at_l
  have pn := k2.trans keys
  refine wpAny_pure ⟨_, rfl, q _ s1.heap.objs.size out.toArray c (out.map SrtO.iv) (fun b u e => ?_) gens1 os1 hz hc k1 (lt_of_le_nodup _ k3 (pn.nodup_iff.mpr one)) (fun k => by rw [pn.mem_iff, ← mem k]) ?_⟩
  · have z := old b u e
    have lt := Heap.lt_size z
    show (sortedHeap (s1.heap.push (seqObj "list" vs.toArray 0)) s1.heap.objs.size vs out.toArray).get? b = some u
    rw [sortedHeap_old (Nat.ne_of_lt lt) (by rw [size_push']; exact Nat.lt_succ_of_lt lt)]
    exact Heap.get?_push_of_some _ z
  · rw [pn.length_eq, List.length_map, Array.length_toList]; exact cnt
end
def rSortX (w : World) : List V → Hp → VK → Prop := fun vs H Q => ∃ (a : Addr) (S : Int → Bool) (n : Nat), vs = [V.ref a] ∧ H a = some (SetO w a S n) ∧ n ≤ 1000 ∧
  ∀ (ns : List Int) (p : Addr), ns.Pairwise (· < ·) → (∀ k : Int, k ∈ ns ↔ S k = true) → ns.length = n → H p = none → Q (.ref p) (upd H p (.lst (ns.map V.int)))
theorem cr_sortX {X : Cx} (hc : X.calm = true) : CallR X (.builtin "sorted") (rSortX X.w) := by
  intro pins s σ H vs us Q I r h
  obtain ⟨a, S, n, rfl, ha, few, q⟩ := h
  rw [Vals.ref1 r]
  refine set_in_order (setO_get I ha) (I.ok.hd hc) few fun s' p out c ns k g o hp hg hi hs hm hl => ?_
  have line : (ns.map V.int).length ≤ sizeLine := by rw [List.length_map, hl]; exact Nat.le_trans few (by decide)
  have np : H p = none := I.hok.fresh hp
  have J : Inv X pins σ (upd H p (.lst (ns.map V.int))) { s with heap := s'.heap, gens := s'.gens, drawn := s'.drawn, toks := s'.toks } :=
    I.call (ch := []) (Un.laid k hp np) (I.hok.laid k hp ⟨line, out.toList, c, vals_of_ints hi, hg⟩) (by rw [g]; exact I.bare) (fun _ z => nomatch z)
  have e : s' = { s with heap := s'.heap, gens := s'.gens, drawn := s'.drawn, toks := s'.toks } := by
    cases s'; cases s; cases o; rfl
  rw [e]
  exact ⟨.ref p, _, J, rfl, q ns p hs hm hl np⟩
end Mine
namespace Mine
open PySem PySem.Spec PyProof.Rows L2
open Evl (Ex)
theorem hu9 {A : Around} {k : Nat} (hr : Room k A) : A.units + 9 < cLine := by have := hr.units; omega
/-! comprehensions whose items are known -/
/-- what a comprehension asks behind its source -/
def lcR (g : TG) (tt : TT) (te : TE) (vs : List Nat) (σ : L2.St) (Q : VK) : It → Hp → Prop := fun J H1 => ∀ D, H1 D = none → ∃ W : Nat → Nat → Hp → Prop, (∃ m, W 0 m (upd H1 D (.lst []))) ∧ ∀ i m H, W i m H →
  (J.stop i H ∧ Q (.ref D) H) ∨ (J.go i H ∧ ∃ Nx : Hp → Prop, (∀ H', Nx H' → ∃ m', m' < m ∧ W (i + 1) m' H') ∧ ∀ x H', J.yld i H x H' → g x (wipe σ vs) H' fun σ2 H2 => wipe σ2 vs = wipe σ vs ∧ tt σ2 H2 fun b H3 =>
    if b = true then te σ2 H3 fun y H4 => ∃ acc, H4 D = some (.lst acc) ∧ acc.length < sizeLine ∧ Nx (upd H4 D (.lst (acc ++ [y]))) else Nx H3)
/-- one turn gives the item o (none: it is left out) -/
def turnR (g : TG) (tt : TT) (te : TE) (vs : List Nat) (σ : L2.St) (x : V) (o : Option V) (H1 : Hp) : Prop := ∀ H', Ex H1 H' → ∀ R : Option V → Hp → Prop, (∀ H'', Ex H' H'' → R o H'') →
  g x (wipe σ vs) H' fun σ2 H2 => wipe σ2 vs = wipe σ vs ∧ tt σ2 H2 fun b H3 => if b = true then te σ2 H3 fun y H4 => R (some y) H4 else R none H3
/-- the way a reading passes a weaker wish on -/
structure MonoLc (g : TG) (tt : TT) (te : TE) (vs : List Nat) (σ : L2.St) : Prop where
  up : ∀ (x : V) (H' : Hp) (R R' : Option V → Hp → Prop), (∀ o H, R o H → R' o H) → (g x (wipe σ vs) H' fun σ2 H2 => wipe σ2 vs = wipe σ vs ∧ tt σ2 H2 fun b H3 => if b = true then te σ2 H3 fun y H4 => R (some y) H4 else R none H3) →
    g x (wipe σ vs) H' fun σ2 H2 => wipe σ2 vs = wipe σ vs ∧ tt σ2 H2 fun b H3 => if b = true then te σ2 H3 fun y H4 => R' (some y) H4 else R' none H3
section
variable {g : TG} {tt : TT} {te : TE} {vs : List Nat} {σ : L2.St} {Q : VK} {H1 : Hp} {K : PySem.W.Frag} {wi : TI}
theorem k_lc {H : Hp} (q : wi σ H (lcR g tt te vs σ Q)) : tLc wi g tt te vs σ H Q := q
theorem turn_in {x : V} {o : Option V} {D : Addr} {acc : List V} {H : Hp} {Nx : Hp → Prop} (t : turnR g tt te vs σ x o H1) (e : Ex H1 H) (hD : H1 D = none) (a : H D = some (.lst acc)) (len : acc.length < sizeLine)
    (nx : ∀ H', Ex H1 H' → H' D = some (.lst (acc ++ o.toList)) → Nx H') :
    g x (wipe σ vs) H fun σ2 H2 => wipe σ2 vs = wipe σ vs ∧ tt σ2 H2 fun b H3 => if b = true then te σ2 H3 fun y H4 => ∃ acc, H4 D = some (.lst acc) ∧ acc.length < sizeLine ∧ Nx (upd H4 D (.lst (acc ++ [y]))) else Nx H3 := by
  refine t H e (fun o' H4 => match o' with | some y => ∃ acc, H4 D = some (.lst acc) ∧ acc.length < sizeLine ∧ Nx (upd H4 D (.lst (acc ++ [y]))) | none => Nx H4) fun H'' e2 => ?_
  cases o with
  | none => exact nx H'' (e.trans e2) (by rw [e2 _ _ a]; simp)
  | some y => exact ⟨acc, e2 _ _ a, len, nx _ (Evl.Ex.mut (e.trans e2) hD) upd_same⟩
theorem lcR_list {a : Addr} {xs : List V} (f : V → Option V) (hS : SqL K H1 a xs) (len : xs.length < sizeLine) (t : ∀ x ∈ xs, turnR g tt te vs σ x (f x) H1)
    (q : ∀ D H', H1 D = none → Ex H1 H' → H' D = some (.lst (xs.filterMap f)) → Q (.ref D) H') : lcR g tt te vs σ Q (Itl K a) H1 := by
  intro D hD
  refine lc_list (K := K) (a := a) (xs := xs) (fun i H => Ex H1 H ∧ H D = some (.lst ((xs.take i).filterMap f))) ⟨Evl.Ex.new hD, upd_same⟩ (fun i H _ p => Evl.ex_l p.1 hS) (fun i x H hx p => ?_) (fun H p => ?_)
  · refine turn_in (t x (List.mem_of_getElem? hx)) p.1 hD p.2 ?_ fun H' e h' => ⟨e, ?_⟩
    · refine Nat.lt_of_le_of_lt (Nat.le_trans (List.length_filterMap_le _ _) ?_) len
      rw [List.length_take]; omega
    · rw [h', List.take_add_one, hx, List.filterMap_append]
      cases h : f x <;> simp [h]
  · refine q D H hD p.1 ?_
    rw [p.2, List.take_of_length_le (Nat.le_refl _)]
theorem lcR_tup {a : Addr} {xs : List V} (f : V → Option V) (hS : SqT K H1 a xs) (len : xs.length < sizeLine) (t : ∀ x ∈ xs, turnR g tt te vs σ x (f x) H1)
    (q : ∀ D H', H1 D = none → Ex H1 H' → H' D = some (.lst (xs.filterMap f)) → Q (.ref D) H') : lcR g tt te vs σ Q (Itt K a) H1 := by
  intro D hD
  refine lc_tup (K := K) (a := a) (xs := xs) (fun i H => Ex H1 H ∧ H D = some (.lst ((xs.take i).filterMap f))) ⟨Evl.Ex.new hD, upd_same⟩ (fun i H _ p => Evl.ex_t p.1 hS) (fun i x H hx p => ?_) (fun H p => ?_)
  · refine turn_in (t x (List.mem_of_getElem? hx)) p.1 hD p.2 ?_ fun H' e h' => ⟨e, ?_⟩
    · refine Nat.lt_of_le_of_lt (Nat.le_trans (List.length_filterMap_le _ _) ?_) len
      rw [List.length_take]; omega
    · rw [h', List.take_add_one, hx, List.filterMap_append]
      cases h : f x <;> simp [h]
  · refine q D H hD p.1 ?_
    rw [p.2, List.take_of_length_le (Nat.le_refl _)]
theorem lcR_rng {n : Nat} (f : Nat → Option V) (len : n < sizeLine) (t : ∀ i, i < n → turnR g tt te vs σ (.int (i : Int)) (f i) H1)
    (q : ∀ D H', H1 D = none → Ex H1 H' → H' D = some (.lst ((List.range n).filterMap f)) → Q (.ref D) H') : lcR g tt te vs σ Q (Itr 0 n) H1 := by
  intro D hD
  refine lc_range (lo := 0) (n := n) (fun i H => Ex H1 H ∧ H D = some (.lst ((List.range i).filterMap f))) ⟨Evl.Ex.new hD, upd_same⟩ (fun i H hi p => ?_) (fun H p => q D H hD p.1 p.2)
  have e0 : (0 : Int) + (i : Int) = (i : Int) := Int.zero_add _
  rw [e0]
  refine turn_in (t i hi) p.1 hD p.2 ?_ fun H' e h' => ⟨e, ?_⟩
  · refine Nat.lt_of_le_of_lt (Nat.le_trans (List.length_filterMap_le _ _) ?_) (Nat.lt_trans hi len)
    rw [List.length_range]; exact Nat.le_refl i
  · rw [h', List.range_succ, List.filterMap_append]
    cases h : f i <;> simp [h]
/-- a turn of x where the item is plain -/
theorem turn_map {i : Nat} {x y : V} (h : ∀ H', Ex H1 H' → ∀ R : VK, R y H' → te ((wipe σ [i]).set i (some x)) H' R) (w : wipe ((wipe σ [i]).set i (some x)) [i] = wipe σ [i] := by rfl) : turnR (gName i) tYes te [i] σ x (some y) H1 :=
  fun H' e R r => ⟨w, h H' e (fun y H4 => R (some y) H4) (r H' (Evl.Ex.refl _))⟩
end
section
variable {X : Cx}
/-- tuple(xs), xs a list -/
def rTupL (K : PySem.W.Frag) : List V → Hp → VK → Prop := fun vs H Q => ∃ p ys, vs = [V.ref p] ∧ SqL K H p ys ∧ ∀ l, H l = none → Q (.ref l) (upd H l (.tup ys))
theorem cr_tupL : CallR X (.type "tuple") (rTupL X.K) := fun pins s σ H xs us Q I r h =>
  let ⟨p, ys, e, h1, q⟩ := h
  call_tuple_of pins s σ H xs us Q I r ⟨p, ys, e, Or.inl ⟨h1, q⟩⟩
end
section
variable {H : Hp} {Q : VK} {K : PySem.W.Frag}
theorem k_tsl {r : V → Option Int → Option Int → Hp → VK → Prop} {σ : L2.St} {te : TE} {tl th : TO} (q : te σ H fun x H1 => tl σ H1 fun l H2 => th σ H2 fun u H3 => r x l u H3 Q) : L2.tSl r te tl th σ H Q := q
theorem k_part {σ : L2.St} {t : TE} {R : Option Int → Hp → Prop} (q : t σ H fun x H1 => ∃ i, x = .int i ∧ R (some i) H1) : tPart t σ H R := q
theorem k_nopart {σ : L2.St} {R : Option Int → Hp → Prop} (q : R none H) : tNoPart σ H R := q
theorem k_exi {R : Int → Prop} {j : Int} (q : R j) : ∃ i, V.int j = V.int i ∧ R i := ⟨j, rfl, q⟩
theorem k_slL {a : Addr} {xs : List V} {lo hi : Option Int} (h : SqL K H a xs) (q : ∀ p, H p = none → Q (.ref p) (upd H p (.lst (cutV xs lo hi)))) : rSlL K (.ref a) lo hi H Q := ⟨a, xs, rfl, h, q⟩
theorem k_sfl {σ : L2.St} {D : Ends} {ta tv : TE} {f : Str} (q : tv σ H fun y H1 => ta σ H1 fun x H2 => ∃ a C dx fs, x = .ref a ∧ H2 a = some (.ins C dx fs) ∧ Cls K C ∧ NoAttr K C f ∧ fs.length < 1000 ∧ D.nx σ (upd H2 a (.ins C dx (putF f y fs)))) : sFld K ta tv f D σ H := q
theorem k_nnot {P : Program} {w : World} {σ : L2.St} {ty td : TE} (q : ty σ H fun y H1 => td σ H1 fun x H2 => ∃ a b kvs p, x = V.ref a ∧ y = V.ref b ∧ H2 a = some (NdO P w a kvs) ∧ Mine.Keys H2 kvs ∧ PrT H2 b p ∧ Q (.bl (!(look kvs p).isSome)) H2) : tNNot P w ty td σ H Q := q
theorem k_nget {P : Program} {w : World} {σ : L2.St} {ty td : TE} (q : td σ H fun x H1 => ty σ H1 fun y H2 => ∃ a b kvs p v, x = V.ref a ∧ y = V.ref b ∧ H2 a = some (NdO P w a kvs) ∧ Mine.Keys H2 kvs ∧ PrT H2 b p ∧ look kvs p = some v ∧ Q (.int v) H2) : tNGet P w td ty σ H Q := q
theorem k_nput {P : Program} {w : World} {σ : L2.St} {D : Ends} {ty td tv : TE} (q : tv σ H fun z H1 => td σ H1 fun x H2 => ty σ H2 fun y H3 => ∃ a b kvs p v, z = V.int v ∧ x = V.ref a ∧ y = V.ref b ∧ H3 a = some (NdO P w a kvs) ∧ Mine.Keys H3 kvs ∧ PrT H3 b p ∧ look kvs p = none ∧
  kvs.length < sizeLine ∧ D.nx σ (upd H3 a (NdO P w a (kvs ++ [(p, b, v)])))) : sNPut P w td ty tv D σ H := q
theorem k_dget {σ : L2.St} {ty td : TE} (q : td σ H fun x H1 => ty σ H1 fun y H2 => ∃ a v, x = V.ref a ∧ DGet H2 a y (some v) ∧ Q v H2) : tDGet td ty σ H Q := q
theorem k_din {σ : L2.St} {ty td : TE} (q : ty σ H fun y H1 => td σ H1 fun x H2 => ∃ a o, x = V.ref a ∧ DGet H2 a y o ∧ Q (.bl o.isSome) H2) : tDIn ty td σ H Q := q
theorem k_dnotin {σ : L2.St} {ty td : TE} (q : ty σ H fun y H1 => td σ H1 fun x H2 => ∃ a o, x = V.ref a ∧ DGet H2 a y o ∧ Q (.bl (!o.isSome)) H2) : tDNotIn ty td σ H Q := q
theorem k_dput {σ : L2.St} {D : Ends} {ty td tv : TE} (q : tv σ H fun v H1 => td σ H1 fun x H2 => ty σ H2 fun y H3 => ∃ a H4, x = V.ref a ∧ DPut H3 a y v H4 ∧ D.nx σ H4) : sDPut td ty tv D σ H := q
theorem k_rCatA {a b : Addr} {xs ys : List V} (h1 : SqT K H a xs) (h2 : SqT K H b ys) (l : xs.length + ys.length ≤ sizeLine) (q : ∀ p H', Ex H H' → SqT K H' p (xs ++ ys) → Q (.ref p) H') : rCatA K (.ref a) (.ref b) H Q :=
  ⟨a, b, xs, ys, rfl, rfl, h1, h2, l, fun e => q b H (Evl.Ex.refl H) (by rw [e]; exact h2), fun _ e => q a H (Evl.Ex.refl H) (by rw [e, List.append_nil]; exact h1), fun _ _ p n => q p _ (Evl.Ex.new n) (k_st upd_same)⟩
/-- what an item of ints is made into -/
def onI (f : Int → Int) : V → Option V := fun v => match v with | .int k => some (.int (f k)) | _ => none
theorem onI_map (f : Int → Int) (ns : List Int) : (ns.map V.int).filterMap (onI f) = (ns.map f).map V.int := by
  induction ns with
  | nil => rfl
  | cons x xs ih =>
    have e : onI f (V.int x) = some (V.int (f x)) := rfl
    rw [List.map_cons, List.filterMap_cons, e, ih]
    rfl
theorem hat_at {hs : List Int} {k : Int} {n : Nat} (l : hs.length = n) (h0 : 0 ≤ k) (h1 : k < n) : atI (hs.map V.int) k = some (V.int (hat hs k)) := by
  obtain ⟨z, hz, e⟩ := at_int (ns := hs) h0 (by omega)
  rw [e]
  unfold hat
  rw [List.getD_eq_getElem?_getD, hz]
  rfl
theorem k_rTupL {p : Addr} {ys : List V} (h : SqL K H p ys) (q : ∀ l, H l = none → Q (.ref l) (upd H l (.tup ys))) : rTupL K [.ref p] H Q := ⟨p, ys, rfl, h, q⟩
theorem k_rListL {p : Addr} {ys : List V} (h : SqL K H p ys) (q : ∀ l, H l = none → Q (.ref l) (upd H l (.lst ys))) : rListQ K [.ref p] H Q := ⟨p, ys, rfl, Or.inl h, q⟩
theorem k_rListT {p : Addr} {ys : List V} (h : SqT K H p ys) (q : ∀ l, H l = none → Q (.ref l) (upd H l (.lst ys))) : rListQ K [.ref p] H Q := ⟨p, ys, rfl, Or.inr h, q⟩
theorem k_rSetL {w : World} {p : Addr} {ns : List Int} (h : SqL K H p (ns.map V.int)) (b : ns.length ≤ 1000) (q : ∀ (p : Addr) (c : Nat), H p = none → c ≤ ns.length → Q (.ref p) (upd H p (SetO w p (fun j => decide (j ∈ ns)) c))) : rSetL K w [.ref p] H Q :=
  ⟨p, ns, rfl, h, Nat.lt_of_le_of_lt (Nat.succ_le_succ b) (by decide), q⟩
theorem k_rSorted {w : World} {a : Addr} {S : Int → Bool} {n : Nat} (h : H a = some (SetO w a S n)) (l : n ≤ 1000) (q : ∀ (ns : List Int) (p : Addr), ns.Pairwise (· < ·) → (∀ k : Int, k ∈ ns ↔ S k = true) → ns.length = n → H p = none → Q (.ref p) (upd H p (.lst (ns.map V.int)))) :
    rSortX w [.ref a] H Q := ⟨a, S, n, rfl, h, l, q⟩
theorem inV_ints (x : Int) : ∀ ns : List Int, inV (V.int x) (ns.map V.int) = decide (x ∈ ns)
  | [] => rfl
  | y :: ys => by
    show (eqV (V.int y) (V.int x) || inV (V.int x) (ys.map V.int)) = _
    rw [inV_ints x ys]
    have e1 : eqV (V.int y) (V.int x) = decide (x = y) := by
      by_cases h1 : x = y
      · subst h1; simp [eqV]
      · simp [eqV, h1, Ne.symm h1]
    rw [e1]
    by_cases h1 : x = y <;> simp [h1]
theorem k_in {neg : Bool} {x : Int} {p : Addr} {ns : List Int} (h : SqL K H p (ns.map V.int)) (q : Q (.bl (if neg then !decide (x ∈ ns) else decide (x ∈ ns))) H) : rIn K neg (.int x) (.ref p) H Q := by
  have f : (ns.map V.int).all flatV = true := by simp [flatV]
  exact ⟨p, _, rfl, Or.inl h, rfl, f, by rw [inV_ints]; exact q⟩
theorem k_rMaxL {a : Addr} {ns : List Int} (h : SqL K H a (ns.map V.int)) (l : 0 < ns.length) (q : ∀ m, m ∈ ns → (∀ y, y ∈ ns → y ≤ m) → Q (.int m) H) : rMax K [.ref a] H Q := ⟨a, ns, rfl, h, l, q⟩
theorem k_rCat {a b : Addr} {xs ys : List V} (h1 : H a = some (.lst xs)) (h2 : H b = some (.lst ys)) (l : xs.length + ys.length ≤ sizeLine) (q : ∀ p, H p = none → Q (.ref p) (upd H p (.lst (xs ++ ys)))) : rCat (.ref a) (.ref b) H Q := ⟨a, b, xs, ys, rfl, rfl, h1, h2, l, q⟩
end
end Mine
namespace Mine
open PySem PySem.Spec PyProof.Rows L2
open Evl (Ex)
/-! a part that is read under a condition on the error -/
def tWhen (p : Prop) (t : TS) : TS := fun D σ H => p ∧ t D σ H
theorem pss_when {X : Cx} {b : List Stmt} {p : Prop} {t : TS} (h : p → PSs X b t) : PSs X b (tWhen p t) :=
  ⟨fun pins s σ H D I q => (h q.1).run pins s σ H D I q.2⟩
theorem zc_at {cls c : Value} {d : Option Addr} {oe : Obj} (h : cls = c ∧ d = none) (z : Zc cls d oe) : Zc c none oe := by
  obtain ⟨rfl, rfl⟩ := h
  exact z
/-- try: body except c as (slot i): suite -/
def tTryAs (K : PySem.W.Frag) (c : Value) (i : Nat) (tb : WX → TS) (ts : Addr → Value → Option Addr → TS) : TS := fun D σ H => tb (wAs K c i ts (fun _ _ _ _ => False) D) D σ H
theorem k_isE {K : PySem.W.Frag} {D a : Addr} {c : V} {cv : Value} {b : Bool} {H : Hp} {Q : VK} (h : PySem.W.kitOne K (.ref D) cv = some b) (hc : ∀ u, RelV c u → u = cv) (q : Q (.bl b) H) : rIsE K D a [.ref a, c] H Q :=
  ⟨c, cv, b, rfl, hc, h, q⟩
theorem rel_ref {c : Addr} : ∀ u, RelV (.ref c) u → u = .ref c := fun _ h => h
theorem rel_ty {n : String} : ∀ u, RelV (.ty n) u → u = .type n := fun _ h => h
/-- C(e, ..) where its __init__ may raise, at the slots -/
def tMakeS (C : Addr) (sp : Sp) (dvs : List V) (E : L2.St → XK) (t : TA) : TE := fun σ H Q => t σ H fun vs H1 => ∀ x dx, H1 x = none → H1 dx = none → dx ≠ x → sp (.ref x :: (vs ++ dvs)) (upd (upd H1 dx (.own x)) x (.ins C dx [])) (fun v H2 => v = .non ∧ Q (.ref x) H2) (E σ)
section
variable {X : Cx} {CX : CXT} {k : Nat} {f C : Addr} {fd : FuncData} {ps : List Str} {sp : Sp} {E : L2.St → XK} {dvs : List V} {ds : List Value} {x : Str} {p pos : Pos} {e : Expr} {es : List Expr} {t : TA}
theorem pe_makeS (M : Mk X.K C f) (F : FnOk X.prog X.w X.K X.mg X.base CX k f fd ps sp) (hr : Room (k + 1) X.A) (hg : Gl X x) (hm : X.mg x = some (.ref C)) (hb : Binds X.K fd ps ds) (hd : Vals dvs ds) (hx : ∀ σ, PassesAt CX X σ (E σ))
    (ha : PA X (e :: es) t) (hdb : (x == ("__debug__" : Str)) = false := by decide) (he : starEach (e :: es) X.env = (false, eval e X.env) :: starEach es X.env := by rfl) (hpl : (backTo pos (starEach es X.env)).any (·.1) = false := by rfl) :
    PE X (.Call (.Name x p) (e :: es) [] pos) (tMakeS C sp dvs E t) := by
  constructor
  intro pins s σ H Q I h
  refine wpAny_Call_Name_kw (ld_glob I hg hm ?_ hdb)
  refine PySem.W.callWith_K (h₀ := X.base) I.ok.mod.kin M.kp ?_ he hpl
  refine thn (ha.run pos pins s σ H _ I h) ?_
  rintro us s1 ⟨vs, H1, I1, r, q⟩
  refine ⟨I1.kIn, ?_⟩
  have q1 := q (s1.heap.objs.size + 1) s1.heap.objs.size (I1.hok.fresh (Nat.le_succ _)) (I1.hok.fresh (Nat.le_refl _)) (Nat.ne_of_lt (Nat.lt_succ_self _))
  have J := Inv.made (C := C) I1
  have rr : Vals (V.ref (s1.heap.objs.size + 1) :: (vs ++ dvs)) (Value.ref (s1.heap.objs.size + 1) :: (us ++ ds)) := .cons rfl (r.append hd)
  have hl : (Value.ref (s1.heap.objs.size + 1) :: us ++ ds).length = ps.length := by
    rw [← F.len _ _ _ _ q1]; exact rr.length.symm
  refine wpAny_call (make_map (f := f) I1.kIn M.makes M.init (beq_iff_eq.mp M.fn) (codeAny_mono (F.run _ X.stack _ _ ⟨Value.ref (s1.heap.objs.size + 1) :: us, []⟩ (Value.ref (s1.heap.objs.size + 1) :: (us ++ ds)) _ _ (E σ) (hr.make C us [])
    (J.env0.make C us []) (hb _ (Value.ref (s1.heap.objs.size + 1) :: us) J.kIn hl) rr q1) ?_))
  rintro (er | fl) s' hq
  · exact hx σ pins _ _ er s' J hq
  · cases fl with
    | ret u =>
      obtain ⟨v, H', I3, rv, ev, q3⟩ := J.after hq
      subst ev
      exact ⟨rv, ⟨V.ref (s1.heap.objs.size + 1), H', I3, rfl, q3⟩⟩
    | next => exact False.elim hq
    | brk => exact False.elim hq
    | cont => exact False.elim hq
end
open PySem.W (Frag)
def excCB (K : Frag) (C : Str) : Bool :=
  He.eqO (PySem.W.findIn K (.ref (He.ga K C)) "__getattribute__") (some (some (.builtin "BaseException.__getattribute__"))) &&
  (decide (PySem.W.findIn K (.ref (He.ga K C)) "__getattr__" = some none) &&
  (decide (PySem.W.subIn K (.ref (He.ga K C)) (.type "BaseException") = some true) &&
  (decide (PySem.W.hasDictIn K (He.ga K C) = true) &&
  (He.eqO (PySem.W.findIn K (.ref (He.ga K C)) "__class__") (some (some (.builtin "object.__class__"))) &&
  (He.eqO (PySem.W.specialIn K (.builtin "object.__class__") "__get__") (some (some (.builtin "getset_descriptor.__get__"))) &&
  (decide (PySem.W.takesIn K (.builtin "object.__class__") = some true) && decide (PySem.W.mroIn K (He.ga K C) (.type "object") = some true)))))))
theorem excC_ok {K : Frag} {C : Str} (h : excCB K C = true) : ExcC K (He.ga K C) := by
  unfold excCB at h
  rw [Bool.and_eq_true, Bool.and_eq_true, Bool.and_eq_true, Bool.and_eq_true, Bool.and_eq_true, Bool.and_eq_true, Bool.and_eq_true] at h
  obtain ⟨h1, h2, h3, h4, h5, h6, h7, h8⟩ := h
  exact ⟨He.eqO_ok h1, of_decide_eq_true h2, of_decide_eq_true h3, of_decide_eq_true h4, He.eqO_ok h5, He.eqO_ok h6, of_decide_eq_true h7, of_decide_eq_true h8⟩
/-- what the errors' classes say of BadValue -/
structure FBadValue (K : Frag) : Prop where
  ex : PySem.W.exmOne K (.ref (He.ga K "BadValue")) (.ref (He.ga K "PlayError")) = some true
  k1 : PySem.W.kitOne K (.ref (He.ga K "BadValue")) (.ref (He.ga K "BadText")) = some false
  k2 : PySem.W.kitOne K (.ref (He.ga K "BadValue")) (.ref (He.ga K "NoMove")) = some false
  k3 : PySem.W.kitOne K (.ref (He.ga K "BadValue")) (.ref (He.ga K "Unknown")) = some false
  k4 : PySem.W.kitOne K (.ref (He.ga K "BadValue")) (.ref (He.ga K "BadValue")) = some true
  k5 : PySem.W.kitOne K (.ref (He.ga K "BadValue")) (.type "ValueError") = some true
end Mine
namespace Mine
open PySem PySem.Spec PyProof.Rows L2
open Evl (Ex)
section
variable {σ : L2.St} {H : Hp} {Q : VK} {K : PySem.W.Frag} {D : Ends}
theorem k_tryAs {c : Value} {i : Nat} {tb : WX → TS} {ts : Addr → Value → Option Addr → TS} (q : tb (wAs K c i ts (fun _ _ _ _ => False) D) D σ H) : tTryAs K c i tb ts D σ H := q
theorem k_makeS {C : Addr} {sp : Sp} {dvs : List V} {E : L2.St → XK} {t : TA} (q : t σ H fun vs H1 => ∀ x dx, H1 x = none → H1 dx = none → dx ≠ x → sp (.ref x :: (vs ++ dvs)) (upd (upd H1 dx (.own x)) x (.ins C dx [])) (fun v H2 => v = .non ∧ Q (.ref x) H2) (E σ)) : tMakeS C sp dvs E t σ H Q := q
theorem k_callSD {sp : Sp} {dvs : List V} {E : L2.St → XK} {t : TA} (q : t σ H fun vs H1 => sp (vs ++ dvs) H1 Q (E σ)) : tCallSD sp dvs E t σ H Q := q
theorem k_when {p : Prop} {t : TS} (h : p) (q : t D σ H) : tWhen p t D σ H := ⟨h, q⟩
/-- the suite is reached -/
theorem k_wAs {cls : Value} {c : Value} {i : Nat} {d : Option Addr} {ts : Addr → Value → Option Addr → TS} {Wout : WX} (e : PySem.W.exmOne K cls c = some true)
    (q : ∀ a, H a = none → ts a cls d { nx := fun σ' H' => D.nx (σ'.set i none) H', rt := D.rt, bk := fun σ' H' => D.bk (σ'.set i none) H', ct := fun σ' H' => D.ct (σ'.set i none) H' } (σ.set i (some (.ref a))) H) : WE (wAs K c i ts Wout D) σ cls d H :=
  ⟨true, e, fun _ => q, fun z => Bool.noConfusion z⟩
theorem TyB.ex {H H' : Hp} {x : V} {T : String} (t : TyB K H x T) (e : Ex H H') : TyB K H' x T := by
  cases t
  case lst h => exact .lst (Evl.ex_l e h)
  case tup h => exact .tup (Evl.ex_t e h)
  case dK h => exact .dK (e _ _ h)
  all_goals constructor
end
/-! keywords -/
def gKA {α : Type} (us ds zs : List α) : List α := us ++ (zs ++ ds)
def gKB {α : Type} (us _ zs : List α) : List α := us ++ zs
def gKC {α : Type} (us _ zs : List α) : List α := us ++ zs.reverse
theorem vals_rev {vs : List V} {us : List Value} (r : Vals vs us) : Vals vs.reverse us.reverse := by
  induction r with
  | nil => exact .nil
  | cons h _ ih => rw [List.reverse_cons, List.reverse_cons]; exact ih.append (.cons h .nil)
theorem gKA_rel {vs ds zs : List V} {us its ws : List Value} (r : Vals vs us) (rd : Vals ds its) (rz : Vals zs ws) : Vals (gKA vs ds zs) (gKA us its ws) := r.append (rz.append rd)
theorem gKB_rel {vs ds zs : List V} {us its ws : List Value} (r : Vals vs us) (_ : Vals ds its) (rz : Vals zs ws) : Vals (gKB vs ds zs) (gKB us its ws) := r.append rz
theorem gKC_rel {vs ds zs : List V} {us its ws : List Value} (r : Vals vs us) (_ : Vals ds its) (rz : Vals zs ws) : Vals (gKC vs ds zs) (gKC us its ws) := r.append (vals_rev rz)
end Mine
namespace Mine
open PySem PySem.Spec PyProof.Rows L2
/-! o.m(e, ..) in a try's body, a method that may raise: what is wished of its error hangs on the slots -/
def tMethE (C : Addr) (m : Str) (sp : Sp) (E : L2.St → XK) (ta : TE) (t : TA) : TE := fun σ H Q => ta σ H fun x H1 => ∃ a dx fs, x = .ref a ∧ H1 a = some (.ins C dx fs) ∧ fs.lookup m = none ∧ t σ H1 fun vs H2 => sp (x :: (vs ++ [])) H2 Q (E σ)
section
variable {X : Cx} {CX : CXT} {k : Nat} {f C : Addr} {fd : FuncData} {ps : List Str} {sp : Sp} {E : L2.St → XK} {m : Str} {pos apos : Pos} {e o : Expr} {es : List Expr} {ta : TE} {t : TA} {pl : Sem Bool}
theorem pe_methE (he : PE X o ta) (c : Cls X.K C) (hm : Meth X.K C m f) (F : FnOk X.prog X.w X.K X.mg X.base CX k f fd ps sp) (hr : Room k X.A) (hb : Binds X.K fd ps []) (hx : ∀ σ, PassesAt CX X σ (E σ)) (ha : PA X (e :: es) t)
    (hst : starEach (e :: es) X.env = (false, eval e X.env) :: starEach es X.env := by rfl) (hpl : (backTo pos (starEach es X.env)).any (·.1) = false := by rfl)
    (ht : eval (.Call (.Attribute o m apos) (e :: es) [] pos) X.env = (do
      let ov ← eval o X.env
      standAt apos.atName
      let (f, first) ← holding [ov] (getMethod ov m pl)
      callWith pos f first (backTo pos (starEach (e :: es) X.env)) (backToKw pos (keywordEach [] X.env))) := by rfl) :
    PE X (.Call (.Attribute o m apos) (e :: es) [] pos) (tMethE C m sp E ta t) := by
  constructor
  intro pins s σ H Q I h
  refine PySem.W.methodCall_KW (pl := pl) (thn (he.run pins s σ H _ I h) ?_) ht
  rintro u s1 ⟨x, H1, I1, rx, a, dx, fs, ex, ea, l, q⟩
  subst ex
  obtain rfl : u = Value.ref a := rx
  refine getmeth_ok I1 ea c hm l ?_
  refine PySem.W.callWith_K (first := [.ref a]) (h₀ := X.base) I.ok.mod.kin hm.kp (thn (ha.run pos pins s1 σ H1 _ I1 q) ?_) hst hpl
  rintro us s2 ⟨vs, H2, I2, r, q2⟩
  rw [List.append_nil] at q2
  exact ⟨I2.kIn, run_fnS (us := .ref a :: us) (vs := .ref a :: vs) F hr hb (hx σ) I2 (.cons rfl r) q2⟩
theorem pe_methE0 (he : PE X o ta) (c : Cls X.K C) (hm : Meth X.K C m f) (F : FnOk X.prog X.w X.K X.mg X.base CX k f fd ps sp) (hr : Room k X.A) (hb : Binds X.K fd ps []) (hx : ∀ σ, PassesAt CX X σ (E σ))
    (ht : eval (.Call (.Attribute o m apos) [] [] pos) X.env = (do
      let ov ← eval o X.env
      standAt apos.atName
      let (f, first) ← holding [ov] (getMethod ov m pl)
      callWith pos f first (backTo pos (starEach [] X.env)) (backToKw pos (keywordEach [] X.env))) := by rfl) :
    PE X (.Call (.Attribute o m apos) [] [] pos) (tMethE C m sp E ta tNil) := by
  constructor
  intro pins s σ H Q I h
  refine PySem.W.methodCall_KW (pl := pl) (thn (he.run pins s σ H _ I h) ?_) ht
  rintro u s1 ⟨x, H1, I1, rx, a, dx, fs, ex, ea, l, q⟩
  subst ex
  obtain rfl : u = Value.ref a := rx
  refine getmeth_ok I1 ea c hm l ?_
  exact PySem.W.callWith_K0 (first := [.ref a]) I1.kIn hm.kp (run_fnS (us := [.ref a]) (vs := [.ref a]) F hr hb (hx σ) I1 (.cons rfl .nil) q)
theorem k_methE {σ : L2.St} {H : Hp} {Q : VK} (q : ta σ H fun x H1 => ∃ a dx fs, x = .ref a ∧ H1 a = some (.ins C dx fs) ∧ fs.lookup m = none ∧ t σ H1 fun vs H2 => sp (x :: (vs ++ [])) H2 Q (E σ)) : tMethE C m sp E ta t σ H Q := q
end
end Mine
set_option maxHeartbeats 2000000
namespace Mine
open PySem PySem.Spec PyProof.Rows L2 L2H
/-! A def that is called within an except suite and is handed the caught error: its promise may speak of the error's address and class. -/
structure FnE (P : Program) (w : World) (K : PySem.W.Frag) (mg : Str → Option Value) (base : Heap) (CX : CXT) (k : Nat) (f : Addr) (fd : FuncData) (ps : List Str) (D : Addr) (sp : Addr → Sp) : Prop where
  len : ∀ a vs H Q E, sp a vs H Q E → vs.length = ps.length
  run : ∀ (A : Around) (outer : List Env) (s : Shared) (H : Hp) (args : Args) (us : List Value) (vs : List V) (Q : VK) (E : XK) (p : Addr × Obj), RoomH k A → Zc (.ref D) none p.2 → (∃ fs, p.2.data = .fields fs) → PinOk outer H s p → Env0 P w K mg base A outer s H → BindsTo s fd args (ps.zip us) → Vals vs us → sp p.1 vs H Q E →
    codeAny (model P w) A (.call (.ref f) args) (CR CX outer P w H s Q E) s
theorem fn_ofE {CX : CXT} {P : Program} {w : World} {K : PySem.W.Frag} {mg : Str → Option Value} {base : Heap} {k : Nat} {f : Addr} {name qual : Str} {params : Arguments} {body : List Stmt} {scope : Scope} {dV kV doc pm cdv ct oc : Value} {an od : Option Addr}
    {osl : Array (Option Value)} {N ps : List Str} {D : Addr} {sp : Addr → Sp} (lk : K.lookup f = some ⟨oc, od, .func (PySem.W.fnOf name qual params body scope dV kV doc pm an cdv ct), osl⟩) (hcd : PySem.W.codeIn K cdv qual = true) (S : FnScope N ps scope)
    (len : ∀ a vs H Q E, sp a vs H Q E → vs.length = ps.length)
    (hbody : ∀ (A : Around) (outer : List Env) (s : Shared) (H : Hp) (vs : List V) (Q : VK) (E : XK) (p : Addr × Obj), Zc (.ref D) none p.2 → (∃ fs, p.2.data = .fields fs) → RoomH k (A.deeper (envOfC qual scope s.heap.objs.size f cdv)) → sp p.1 vs H Q E →
      ∃ t, PSs (cxH CX P w K mg base N qual scope f cdv A outer s H E p) body t ∧ t { nx := fun _ H' => Q .non H', rt := Q } (L2.start N vs) H) :
    FnE P w K mg base CX (k + 1) f (PySem.W.fnOf name qual params body scope dV kV doc pm an cdv ct) ps D sp := by
  refine ⟨len, fun A outer s H args us vs Q E p hr hz hf hpin e0 hb r hsp => ?_⟩
  have hl := len _ _ _ _ _ hsp
  have KX : K.In s.heap := e0.mod.kin.keeps fun b o e => (e0.bs b o e).1
  have lim : s.heap.NoLimit := e0.mod.nolimit.keeps fun b o e => (e0.bs b o e).1
  have hkind : ∀ y ∈ ps.zip us, scope.names.lookup y.1 = some .local ∨ (scope.names.lookup y.1 = some .cell ∧ ((cellsFrom (s.heap.objs.size + 1) scope.names []).lookup y.1).isSome = true) := fun ⟨n, v⟩ hy => by
    rcases S.par n (List.of_mem_zip hy).1 with q | q
    · exact .inl q
    · exact .inr ⟨q, PySem.W.cellsFrom_some _ _ _ (.inl q)⟩
  refine codeAny_call_function hr.depth (KX _ _ lk) rfl S.co S.gen rfl (PySem.W.codeRec_of KX hcd) (hb _ _ _ _ ?_)
  refine wpAny_newFunctionEnv_cells S.kind hkind fun env he s1 x => ?_
  subst he
  refine ⟨lim.keeps x.toInCall.keep, codeAny_func ?_⟩
  obtain ⟨t, ht, hq⟩ := hbody A outer s H vs Q E p hz hf (hr.deeper _) hsp
  have I : Inv (cxH CX P w K mg base N qual scope f cdv A outer s H E p) [] (L2.start N vs) H s1 := inv_startH S hpin e0 hl r x
  refine wpAny_mono (ht.run [] s1 (L2.start N vs) H _ I hq) (fun fl s' hs => ?_) fun e s' hs => hs
  have fin : ∀ {σ' : L2.St} {H' : Hp} {v : V} {u : Value}, Inv (cxH CX P w K mg base N qual scope f cdv A outer s H E p) [] σ' H' s' → RelV v u → Q v H' → CE outer P w H s Q u s' :=
    fun {σ' H' v u} J rv q => ⟨v, H', J.os, J.bare, J.base, J.hok, rv, q⟩
  cases fl with
  | ret u =>
    obtain ⟨v, σ', H', J, rv, q⟩ := hs
    exact fin J rv q
  | next =>
    obtain ⟨σ', H', J, q⟩ := hs
    exact fin (v := V.non) (u := Value.none) J rfl q
  | brk =>
    obtain ⟨_, _, _, q⟩ := hs
    exact False.elim q
  | cont =>
    obtain ⟨_, _, _, q⟩ := hs
    exact False.elim q
section
variable {X : Cx} {CX : CXT} {k : Nat} {f D a : Addr} {oe : Obj} {fd : FuncData} {ps : List Str} {sp : Addr → Sp} {E : L2.St → XK} {x : Str} {q pos : Pos} {e : Expr} {es : List Expr} {t : TA}
theorem run_fnE {pins : List (Addr × Obj)} {σ : L2.St} {H : Hp} {s : Shared} {Q : VK} {us : List Value} {vs : List V} (F : FnE X.prog X.w X.K X.mg X.base CX k f fd ps D sp) (hr : RoomH k X.A) (hp : (a, oe) ∈ X.pn) (hz : Zc (.ref D) none oe) (hf : ∃ fs, oe.data = .fields fs) (hb : Binds X.K fd ps []) (hx : PassesAt CX X σ (E σ))
    (I : Inv X pins σ H s) (r : Vals vs us) (h : sp a vs H Q (E σ)) : wpAny (model X.prog X.w) X.A (call (.ref f) us) (EP X pins σ Q) X.xe s := by
  have hl : us.length = ps.length := by rw [← r.length]; exact F.len _ _ _ _ _ h
  have b := hb s us I.kIn (by rw [List.append_nil]; exact hl)
  rw [List.append_nil] at b
  have P1 := I.pin (a, oe) (List.mem_append_left _ hp)
  have hpin : PinOk X.stack H s (a, oe) := ⟨P1.1, P1.2.1, fun hm => (List.mem_cons.mp (I.stkSub a hm)).elim P1.2.2.1 P1.2.2.2.1, P1.2.2.2.2⟩
  refine wpAny_call (codeAny_mono (F.run X.A X.stack s H ⟨us, []⟩ us vs Q (E σ) (a, oe) hr hz hf hpin I.env0 b r h) fun r s' hq => ?_)
  cases r with
  | error e => exact hx pins H s e s' I hq
  | ok fl =>
    cases fl with
    | ret u => exact I.after hq
    | next => exact False.elim hq
    | brk => exact False.elim hq
    | cont => exact False.elim hq
end
section
variable {X : Cx} {CX : CXT} {k : Nat} {f D a : Addr} {oe : Obj} {fd : FuncData} {ps : List Str} {sp : Addr → Sp} {E : XK} {x : Str} {q pos : Pos} {e : Expr} {es : List Expr} {t : TA}
def tCallE (sp : Addr → Sp) (a : Addr) (E : XK) (t : TA) : TE := fun σ H Q => t σ H fun vs H1 => sp a (vs ++ []) H1 Q E
theorem pe_callE (F : FnE X.prog X.w X.K X.mg X.base CX k f fd ps D sp) (hr : RoomH k X.A) (hp : (a, oe) ∈ X.pn) (hz : Zc (.ref D) none oe) (hf : ∃ fs, oe.data = .fields fs) (hg : Gl X x) (hm : X.mg x = some (.ref f)) (hk : PySem.W.keepIn X.K (.ref f) = true) (hb : Binds X.K fd ps []) (hx : Passes CX X E)
    (ha : PA X (e :: es) t) (hdb : (x == ("__debug__" : Str)) = false := by decide) (he : starEach (e :: es) X.env = (false, eval e X.env) :: starEach es X.env := by rfl) (hpl : (backTo pos (starEach es X.env)).any (·.1) = false := by rfl) :
    PE X (.Call (.Name x q) (e :: es) [] pos) (tCallE sp a E t) := by
  refine ⟨fun pins s σ H Q I h => ?_⟩
  refine wpAny_Call_Name_kw (ld_glob I hg hm ?_ hdb)
  refine PySem.W.callWith_K (h₀ := X.base) I.ok.mod.kin hk (thn (ha.run pos pins s σ H _ I h) fun us s1 ⟨vs, H1, I1, r, q⟩ => ⟨I1.kIn, ?_⟩) he hpl
  have q : sp a (vs ++ []) H1 Q E := q
  rw [List.append_nil] at q
  exact run_fnE (E := fun _ => E) F hr hp hz hf hb (fun pins H s e s' I c => hx pins σ H s e s' I c) I1 r q
end
theorem k_callE {σ : L2.St} {H : Hp} {Q : VK} {a : Addr} {sp : Addr → Sp} {E : XK} {t : TA} (q : t σ H fun vs H1 => sp a (vs ++ []) H1 Q E) : tCallE sp a E t σ H Q := q
theorem roomHM {k : Nat} {A : Around} {v : Option Value} (r : Room k A) : RoomH k (A.mark v) := ⟨r.dp, r.un⟩
structure DefE (P : Program) (w : World) (K : PySem.W.Frag) (mg : Str → Option Value) (base : Heap) (CX : CXT) (k : Nat) (x qual : Str) (st : Stmt) (dvs : List V) (f : Addr) (ps : List Str) (D : Addr) (sp : Addr → Sp) : Prop where
  ex : ∃ fd, FunD K x qual (defArgs st) (defBody st) (defScope st) dvs [] f fd ∧ FnE P w K mg base CX k f fd ps D sp
theorem okE {P : Program} {w : World} {K : PySem.W.Frag} {mg : Str → Option Value} {base : Heap} {x qual : Str} {params : Arguments} {body : List Stmt} {scope : Scope} {dvs : List V} {kws : List (Str × V)} {f : Addr} {fd : FuncData} {CX : CXT} {N ps : List Str} {k : Nat} {D : Addr} {sp : Addr → Sp} (F : FunD K x qual params body scope dvs kws f fd) (S : FnScope N ps scope) (len : ∀ a vs H Q E, sp a vs H Q E → vs.length = ps.length)
    (hbody : ∀ (cdv : Value) (A : Around) (outer : List Env) (s : Shared) (H : Hp) (vs : List V) (Q : VK) (E : XK) (a : Addr) (oe : Obj), Zc (.ref D) none oe → (∃ fs, oe.data = .fields fs) → RoomH k (A.deeper (envOfC qual scope s.heap.objs.size f cdv)) → sp a vs H Q E →
      ∃ t, PSs (cxH CX P w K mg base N qual scope f cdv A outer s H E (a, oe)) body t ∧ t { nx := fun _ H' => Q .non H', rt := Q } (L2.start N vs) H) : FnE P w K mg base CX (k + 1) f fd ps D sp := by
  obtain ⟨oc, od, dV, kV, doc, pm, an, cdv, ct, osl, rfl, lk, hcd, _, _⟩ := F.ex
  exact fn_ofE lk hcd S len fun A outer s H vs Q E p hz hf hr hsp => hbody cdv A outer s H vs Q E p.1 p.2 hz hf hr hsp
/-- isinstance(e, c) where the error's object is pinned -/
theorem call_isP {X : Cx} {a D : Addr} {oe : Obj} (C : ExcC X.K D) (hp : (a, oe) ∈ X.pn) (hz : Zc (.ref D) none oe) (hf : ∃ vs, oe.data = .fields vs) : CallR X (.builtin "isinstance") (rIsE X.K D a) := by
  intro pins s σ H xs us Q I r h
  obtain ⟨c, cv, b, rfl, hcv, e, q⟩ := h
  cases r with
  | cons rx rr =>
    cases rr with
    | cons rt rr =>
      cases rr
      cases rx
      have ec := hcv _ rt
      subst ec
      obtain ⟨hget, _⟩ := I.pin (a, oe) (List.mem_append.mpr (.inl hp))
      obtain ⟨vs, hv⟩ := hf
      have J : PySem.W.InstAt s.heap a oe D none := by
        obtain ⟨oc, od, oda, osl⟩ := oe
        obtain ⟨h1, h2⟩ := hz
        dsimp only at h1 h2 hv
        subst h1 h2 hv
        exact ⟨hget, rfl, rfl, trivial⟩
      exact PySem.W.kia_one (PySem.W.handS_kitx_exc C.hg C.hk C.hs C.hd C.ha C.hn C.ht C.hm) I.kIn J e (fun z => nomatch z) fun tk => ⟨.bl b, H, I.kept (t' := tk) fun _ _ z => z, rfl, q⟩
end Mine
namespace Mine
open PySem PySem.Spec PyProof.Rows L2
open Evl (Ex)
/-! a law's own list of forms: refs to pairs of lists of ints -/
/-- all but the addresses of Z stays -/
def Keep (Z : Addr → Prop) (H H' : Hp) : Prop := ∀ c o, H c = some o → ¬ Z c → H' c = some o
theorem Keep.of {Z : Addr → Prop} {H H' : Hp} (e : Ex H H') : Keep Z H H' := fun c o h _ => e c o h
theorem Keep.trans {Z : Addr → Prop} {H H1 H2 : Hp} (a : Keep Z H H1) (b : Keep Z H1 H2) : Keep Z H H2 := fun c o h n => b c o (a c o h n) n
def FormAt (Z : Addr → Prop) (H : Hp) (a : Addr) (g : Pr) : Prop := ∃ c d, H a = some (.tup [.ref c, .ref d]) ∧ H c = some (.lst (g.1.map V.int)) ∧ H d = some (.lst (g.2.map V.int)) ∧ ¬ Z c ∧ ¬ Z d
def FormsAt (Z : Addr → Prop) (H : Hp) (xs : List V) (G : List Pr) : Prop := xs.length = G.length ∧ ∀ (i : Nat) (g : Pr), G[i]? = some g → ∃ a, xs[i]? = some (.ref a) ∧ FormAt Z H a g
def ModAt (Z : Addr → Prop) (H : Hp) (m : Addr) (G : List Pr) : Prop := ∃ xs, H m = some (.lst xs) ∧ FormsAt Z H xs G
theorem FormAt.keep {Z : Addr → Prop} {H H' : Hp} {a : Addr} {g : Pr} (f : FormAt Z H a g) (k : Keep Z H H') (t : ∀ c ys, H c = some (.tup ys) → H' c = some (.tup ys)) : FormAt Z H' a g :=
  let ⟨c, d, h1, h2, h3, z1, z2⟩ := f
  ⟨c, d, t _ _ h1, k _ _ h2 z1, k _ _ h3 z2, z1, z2⟩
theorem FormsAt.keep {Z : Addr → Prop} {H H' : Hp} {xs : List V} {G : List Pr} (f : FormsAt Z H xs G) (k : Keep Z H H') (t : ∀ c ys, H c = some (.tup ys) → H' c = some (.tup ys)) : FormsAt Z H' xs G :=
  ⟨f.1, fun i g h => let ⟨a, h1, h2⟩ := f.2 i g h; ⟨a, h1, h2.keep k t⟩⟩
theorem FormsAt.ex {Z : Addr → Prop} {H H' : Hp} {xs : List V} {G : List Pr} (f : FormsAt Z H xs G) (e : Ex H H') : FormsAt Z H' xs G := f.keep (Keep.of e) fun c ys h => e _ _ h
theorem ModAt.up {Z : Addr → Prop} {H H' : Hp} {m : Addr} {G : List Pr} (f : ModAt Z H m G) (e : Ex H H') : ModAt Z H' m G := let ⟨xs, h1, h2⟩ := f; ⟨xs, e _ _ h1, h2.ex e⟩
/-- data of a form -/
def formD (g : Pr) : PyData := .tuple [.list (g.1.map .int), .list (g.2.map .int)]
theorem dp_ints {K : PySem.W.Frag} {H : Hp} : ∀ ns : List Int, DpAll K H (ns.map V.int) (ns.map .int)
  | [] => .nil
  | x :: xs => .cons (.int x) (dp_ints xs)
theorem FormAt.dp {K : PySem.W.Frag} {Z : Addr → Prop} {H : Hp} {a : Addr} {g : Pr} (f : FormAt Z H a g) : Dp K H (.ref a) (formD g) :=
  let ⟨c, d, h1, h2, h3, _⟩ := f
  .tup (k_st h1) (.cons (.lst (k_sq h2) (dp_ints _)) (.cons (.lst (k_sq h3) (dp_ints _)) .nil))
theorem eqv_form (g h : Pr) : PyData.eqv (formD g) (formD h) = decide (g = h) := by
  unfold formD
  simp only [PyData.eqv, PyData.eqvAll, PySem.W.ked_eqvAll]
  obtain ⟨a, b⟩ := g
  obtain ⟨c, d⟩ := h
  by_cases h1 : a = c <;> by_cases h2 : b = d <;> simp [h1, h2]
theorem lay_ints : ∀ ns : List Int, PyData.canLayAll0 (ns.map .int) = true
  | [] => rfl
  | x :: xs => by
    simp only [List.map_cons, PyData.canLayAll0, PyData.canLay0, lay_ints xs]
    rfl
theorem deep_ints : ∀ ns : List Int, PyData.depthAll (ns.map .int) = 0
  | [] => by simp only [List.map_nil, PyData.depthAll]
  | x :: xs => by simp only [List.map_cons, PyData.depthAll, PyData.depth, deep_ints xs]; rfl
theorem shaped_form (g : Pr) : SeqAt.shaped (formD g) = true := by
  unfold formD SeqAt.shaped
  simp only [PyData.canLay0, PyData.depth, PyData.canLayAll0, PyData.depthAll, lay_ints, deep_ints]
  rfl
theorem shaped_ints (ns : List Int) : SeqAt.shaped (.list (ns.map .int)) = true := by
  unfold SeqAt.shaped
  simp only [PyData.canLay0, PyData.depth, lay_ints, deep_ints]
  rfl
theorem eqv_ints (a b : List Int) : PyData.eqv (.list (a.map .int)) (.list (b.map .int)) = decide (a = b) := by
  simp only [PyData.eqv, PySem.W.ked_eqvAll]
/-- a list of two lists of ints -/
def twoD (g : Pr) : PyData := .list [.list (g.1.map .int), .list (g.2.map .int)]
theorem eqv_two (g h : Pr) : PyData.eqv (twoD g) (twoD h) = decide (g = h) := by
  unfold twoD
  simp only [PyData.eqv, PyData.eqvAll, PySem.W.ked_eqvAll]
  obtain ⟨a, b⟩ := g
  obtain ⟨c, d⟩ := h
  by_cases h1 : a = c <;> by_cases h2 : b = d <;> simp [h1, h2]
theorem shaped_two (g : Pr) : SeqAt.shaped (twoD g) = true := by
  unfold twoD SeqAt.shaped
  simp only [PyData.canLay0, PyData.depth, PyData.canLayAll0, PyData.depthAll, lay_ints, deep_ints]
  rfl
section
variable {K : PySem.W.Frag} {H : Hp} {Q : VK}
theorem k_eqF {Z Z' : Addr → Prop} {a b : Addr} {g h : Pr} (f1 : FormAt Z H a g) (f2 : FormAt Z' H b h) (q : Q (.bl (decide (g = h))) H) : rEqD K (.ref a) (.ref b) H Q :=
  ⟨formD g, formD h, f1.dp, f2.dp, shaped_form g, shaped_form h, by rw [eqv_form]; exact q⟩
theorem k_eqIs {a b : Addr} {g h : List Int} (f1 : SqL K H a (g.map V.int)) (f2 : SqL K H b (h.map V.int)) (q : Q (.bl (decide (g = h))) H) : rEqD K (.ref a) (.ref b) H Q :=
  ⟨_, _, .lst f1 (dp_ints g), .lst f2 (dp_ints h), shaped_ints g, shaped_ints h, by rw [eqv_ints]; exact q⟩
theorem k_neTwo {a b c d e f : Addr} {g h : Pr} (f1 : SqL K H a [.ref c, .ref d]) (f2 : SqL K H b [.ref e, .ref f]) (hc : SqL K H c (g.1.map V.int)) (hd : SqL K H d (g.2.map V.int)) (he : SqL K H e (h.1.map V.int)) (hf : SqL K H f (h.2.map V.int))
    (q : Q (.bl (!decide (g = h))) H) : rNeD K (.ref a) (.ref b) H Q :=
  ⟨twoD g, twoD h, .lst f1 (.cons (.lst hc (dp_ints _)) (.cons (.lst hd (dp_ints _)) .nil)), .lst f2 (.cons (.lst he (dp_ints _)) (.cons (.lst hf (dp_ints _)) .nil)), shaped_two g, shaped_two h, by rw [eqv_two]; exact q⟩
end
section
variable {g : TG} {tt : TT} {te : TE} {vs : List Nat} {σ : L2.St} {Q : VK} {H1 : Hp} {K : PySem.W.Frag} {wi : TI}
theorem turn_flt {i : Nat} {x : V} {b : Bool} (h : ∀ H', Ex H1 H' → ∀ R : Bool → Hp → Prop, R b H' → tt ((wipe σ [i]).set i (some x)) H' R) (w : wipe ((wipe σ [i]).set i (some x)) [i] = wipe σ [i] := by rfl) (v : ((wipe σ [i]).set i (some x))[i]? = some (some x) := by rfl) :
    turnR (gName i) tt (tVar i) [i] σ x (if b = true then some x else none) H1 :=
  fun H' e R r => ⟨w, h H' e _ (by
    cases b
    · exact r H' (Evl.Ex.refl _)
    · exact ⟨x, v, r H' (Evl.Ex.refl _)⟩)⟩
/-- the members of a range that a test keeps -/
def kept (n : Nat) (p : Nat → Bool) : List Int := ((List.range n).filter p).map fun i : Nat => (i : Int)
theorem kept_map (n : Nat) (p : Nat → Bool) : (List.range n).filterMap (fun i => if p i = true then some (V.int (i : Int)) else none) = (kept n p).map V.int := by
  unfold kept
  induction (List.range n) with
  | nil => rfl
  | cons x xs ih =>
    rw [List.filterMap_cons, List.filter_cons]
    by_cases h : p x = true
    · rw [if_pos h, if_pos h, List.map_cons, List.map_cons, ← ih]
    · rw [if_neg h, if_neg h, ← ih]
theorem mem_kept {n : Nat} {p : Nat → Bool} {x : Int} : x ∈ kept n p ↔ ∃ i : Nat, x = i ∧ i < n ∧ p i = true := by
  unfold kept
  rw [List.mem_map]
  constructor
  · rintro ⟨i, h, rfl⟩
    rw [List.mem_filter, List.mem_range] at h
    exact ⟨i, rfl, h.1, h.2⟩
  · rintro ⟨i, rfl, h1, h2⟩
    exact ⟨i, by rw [List.mem_filter, List.mem_range]; exact ⟨h1, h2⟩, rfl⟩
theorem kept_asc (n : Nat) (p : Nat → Bool) : Asc n (kept n p) := by
  refine ⟨?_, fun x m => ?_⟩
  · unfold kept
    rw [List.pairwise_map]
    refine List.Pairwise.imp (fun h => Int.ofNat_lt.mpr h) (List.Pairwise.filter p ?_)
    first | exact List.pairwise_lt_range | exact List.pairwise_lt_range _
  · obtain ⟨i, rfl, h, _⟩ := mem_kept.mp m
    omega
theorem cut_ints (ls : List Int) (lo hi : Option Int) : ∃ l' : List Int, cutV (ls.map V.int) lo hi = l'.map V.int ∧ (∀ x ∈ l', x ∈ ls) ∧ l'.length ≤ ls.length := by
  unfold cutV
  refine ⟨(ls.drop _).take _, by rw [List.map_take, List.map_drop], fun x m => List.mem_of_mem_drop (List.mem_of_mem_take m), ?_⟩
  rw [List.length_take, List.length_drop]
  omega
theorem cut_last {ls : List Int} (h : ls ≠ []) : ∃ l' : List Int, cutV (ls.map V.int) (some (-3)) none = l'.map V.int ∧ (∀ x ∈ l', x ∈ ls) ∧ l' ≠ [] := by
  refine ⟨(ls.drop _).take _, by unfold cutV; rw [List.map_take, List.map_drop], fun x m => List.mem_of_mem_drop (List.mem_of_mem_take m), fun e => ?_⟩
  have hl : 0 < ls.length := List.length_pos_iff.mpr h
  have z := congrArg List.length e
  rw [List.length_take, List.length_drop, List.length_map, HT.sIx_none] at z
  have s : HT.sIx ls.length 0 (some (-3)) = (-3 + (ls.length : Int)).toNat := by
    show (if (-3 : Int) < 0 then (-3 + (ls.length : Int)).toNat else min (-3 : Int).toNat ls.length) = _
    rw [if_pos (by decide)]
  rw [s, List.length_nil] at z
  omega
theorem rng_map (n : Nat) (f : Nat → Int) : (List.range n).filterMap (fun i => some (V.int (f i))) = ((List.range n).map f).map V.int := by
  induction (List.range n) with
  | nil => rfl
  | cons x xs ih => rw [List.filterMap_cons, List.map_cons, List.map_cons, ← ih]
theorem atI_in {ls : List Int} {k : Int} (h0 : 0 ≤ k) (h1 : k < ls.length) : ∃ z, z ∈ ls ∧ atI (ls.map V.int) k = some (.int z) ∧ z = ls.getD k.toNat 0 := by
  obtain ⟨z, hz, e⟩ := at_int h0 h1
  exact ⟨z, List.mem_of_getElem? hz, e, by rw [List.getD_eq_getElem?_getD, hz]; rfl⟩
end
theorem dg_of {ds : List Int} (hd : ∀ d ∈ ds, 0 ≤ d ∧ d < 60) {k : Int} (h0 : 0 ≤ k) (hk : k < ds.length) : ∃ z, atI (ds.map V.int) k = some (.int z) ∧ (0 ≤ z ∧ z < 60) ∧ z = ds.getD k.toNat 0 := by
  obtain ⟨z, m, e, f⟩ := atI_in h0 hk
  exact ⟨z, e, hd z m, f⟩
/-- the height that a law reckons of a new game -/
def HgtL (G : List Pr) (hs : List Int) (p : Pr) (hs' : List Int) : Prop := (p ∈ G ∧ hs' = hs) ∨ (p ∉ G ∧ ∃ m, hs' = hs ++ [m] ∧ m ∈ (0 :: (p.1 ++ p.2).map fun k => 1 + hat hs k) ∧ ∀ y ∈ (0 :: (p.1 ++ p.2).map fun k => 1 + hat hs k), y ≤ m)
section
variable {P : Program} {w : World} {K : PySem.W.Frag} {H H' : Hp} {F : Foot} {G : List Pr} {hs : List Int} {ts : List (Key × V)}
theorem k_if2 {b : Bool} {x y : V} {σ : L2.St} {Q : VK} (q : ∀ v, v = x ∨ v = y → Q v H) : if b = true then tC x σ H Q else tC y σ H Q := by
  cases b
  · exact q y (Or.inr rfl)
  · exact q x (Or.inl rfl)
theorem k_revL {te : TE} {σ : L2.St} {Q : VK} (q : te σ H fun x H1 => ∃ a xs, x = .ref a ∧ SqL K H1 a xs ∧ ∀ p, H1 p = none → Q (.ref p) (upd H1 p (.lst xs.reverse))) : tRevL K te σ H Q := q
theorem sql_keep {Z : Addr → Prop} {a : Addr} {xs : List V} (h : SqL K H a xs) (k : Keep Z H H') (z : ∀ o, H a = some o → ¬ Z a) : SqL K H' a xs := by
  rcases h with (h | ⟨o, h⟩) | h
  · exact Or.inl (Or.inl (k _ _ h (z _ h)))
  · exact Or.inl (Or.inr ⟨o, k _ _ h (z _ h)⟩)
  · exact Or.inr h
/-- one list, not the yard's, is changed -/
theorem YardAt.but (Y : YardAt P w K H F G hs ts) {p : Addr} {ys : List V} (hp : H p = some (.lst ys)) (off : Off F p) (k : ∀ c o, H c = some o → c ≠ p → H' c = some o) : YardAt P w K H' F G hs ts := by
  obtain ⟨o1, o2, o3, o4, o5⟩ := off
  have t : ∀ c zs, H c = some (.tup zs) → H' c = some (.tup zs) := fun c zs z => k _ _ z (ne_of z hp (by intro y; cases y))
  exact ⟨k _ _ Y.ins (ne_of Y.ins hp (by intro y; cases y)), let ⟨xs, h1, h2⟩ := Y.ls; ⟨xs, k _ _ h1 o1.symm, h2.ex t⟩, let ⟨xs, h1, h2⟩ := Y.rs; ⟨xs, k _ _ h1 o2.symm, h2.ex t⟩, ⟨k _ _ Y.hs.1 o3.symm, Y.hs.2⟩,
    let ⟨kvs, h1, h2, h3⟩ := Y.ns; ⟨kvs, k _ _ h1 o4.symm, fun x m => (h2 x m).ex t, h3⟩, k _ _ Y.ts o5.symm, Y.ne, Y.ht, Y.G⟩
end
/-- 0, 1, .. below n -/
def nums (n : Nat) : List Int := (List.range n).map fun i : Nat => (i : Int)
theorem nums_len (n : Nat) : (nums n).length = n := by unfold nums; rw [List.length_map, List.length_range]
theorem nums_at {n : Nat} {k : Int} (h0 : 0 ≤ k) (h1 : k < n) : atI ((nums n).map V.int) k = some (V.int k) := by
  obtain ⟨z, hz, e⟩ := at_int (ns := nums n) h0 (by rw [nums_len]; exact h1)
  rw [e]
  unfold nums at hz
  rw [List.getElem?_map, List.getElem?_range (by omega)] at hz
  have hz : ((k.toNat : Nat) : Int) = z := Option.some.inj hz
  rw [← hz, show ((k.toNat : Nat) : Int) = k by omega]
theorem nums_succ (n : Nat) : nums (n + 1) = nums n ++ [(n : Int)] := by unfold nums; rw [List.range_succ, List.map_append]; rfl
theorem mem_nums {n : Nat} {k : Int} : k ∈ nums n ↔ 0 ≤ k ∧ k < n := by
  unfold nums
  rw [List.mem_map]
  constructor
  · rintro ⟨i, m, rfl⟩
    have := List.mem_range.mp m
    omega
  · rintro ⟨h0, h1⟩
    exact ⟨k.toNat, List.mem_range.mpr (by omega), by omega⟩
theorem onI_id (ns : List Int) : (ns.map V.int).filterMap (onI fun k => k) = ns.map V.int := by rw [onI_map, List.map_id']
theorem sorted_asc {l l' : List Int} (p : l'.Perm l) (le : l'.Pairwise (· ≤ ·)) (a : l.Pairwise (· < ·)) : l' = l := by
  have nd : l'.Nodup := p.nodup_iff.mpr (List.Pairwise.imp (fun h => Int.ne_of_lt h) a)
  exact asc_ext (lt_of_le_nodup l' le nd) a fun k => p.mem_iff
theorem k_sortA {K : PySem.W.Frag} {H : Hp} {Q : VK} {a : Addr} {ns : List Int} (h : SqL K H a (ns.map V.int)) (asc : ns.Pairwise (· < ·)) (q : ∀ p, H p = none → Q (.ref p) (upd H p (.lst (ns.map V.int)))) : rSortedI K [.ref a] H Q :=
  ⟨a, ns, rfl, h, fun ns' p pm le n => by rw [sorted_asc pm le asc]; exact q p n⟩
theorem nums_asc (n : Nat) : Asc n (nums n) := by
  refine ⟨?_, fun x m => mem_nums.mp m⟩
  unfold nums
  rw [List.pairwise_map]
  refine List.Pairwise.imp (fun h => Int.ofNat_lt.mpr h) ?_
  first | exact List.pairwise_lt_range | exact List.pairwise_lt_range _
theorem isHt_one {hs : List Int} {g : Pr} {h h' : Int} (a : IsHt hs g h) (b : IsHt hs g h') : h = h' := by
  rcases a with ⟨e, rfl⟩ | ⟨m, mm, ml, rfl⟩
  · rcases b with ⟨_, rfl⟩ | ⟨m', mm', _⟩
    · rfl
    · rw [e] at mm'; simp at mm'
  · rcases b with ⟨e, _⟩ | ⟨m', mm', ml', rfl⟩
    · rw [e] at mm; simp at mm
    · have h1 := ml m' mm'
      have h2 := ml' m mm
      omega
theorem ht_same {G G' : List Pr} {hs hs' : List Int} (o : HtOk G hs) (o' : HtOk G' hs') (sub : ∀ (i : Nat) (g : Pr), G[i]? = some g → G'[i]? = some g) (f : Forms G) : ∀ (n i : Nat), i < n → i < G.length → hat hs i = hat hs' i := by
  intro n
  induction n with
  | zero => intro i h; exact absurd h (Nat.not_lt_zero _)
  | succ n ih =>
    intro i hi hl
    have hg := List.getElem?_eq_getElem hl
    have a := o i _ hg
    have b := o' i _ (sub i _ hg)
    obtain ⟨a1, a2⟩ := f.asc i _ hg
    have e : (G[i].1 ++ G[i].2).map (hat hs) = (G[i].1 ++ G[i].2).map (hat hs') := by
      refine List.map_congr_left fun k m => ?_
      have bk := Asc.both a1 a2 k m
      have := ih k.toNat (by omega) (by omega)
      rw [show ((k.toNat : Nat) : Int) = k by omega] at this
      exact this
    unfold IsHt at b
    rw [← e] at b
    exact isHt_one a b
theorem nodup_le : ∀ (l m : List Int), l.Nodup → (∀ x ∈ l, x ∈ m) → l.length ≤ m.length
  | [], _, _, _ => Nat.zero_le _
  | x :: l, m, n, s => by
    obtain ⟨n1, n2⟩ := List.nodup_cons.mp n
    have hx := s x List.mem_cons_self
    have h := nodup_le l (m.erase x) n2 fun y my => (List.mem_erase_of_ne (fun (e : y = x) => n1 (e ▸ my))).mpr (s y (List.mem_cons_of_mem _ my))
    rw [List.length_erase_of_mem hx] at h
    have := List.length_pos_of_mem hx
    rw [List.length_cons]
    omega
/-- who is reached from k past none of the done -/
inductive Rch (G : List Pr) (dk : Int → Bool) (k : Int) : Int → Prop
  | root : dk k = false → Rch G dk k k
  | step {i j : Int} {g : Pr} : Rch G dk k i → G[i.toNat]? = some g → j ∈ g.1 ++ g.2 → dk j = false → Rch G dk k j
def dkey (kvs : List (Key × V)) : Int → Bool := fun j => (valV kvs (Sum.inl j)).isSome
theorem Rch.bound {G : List Pr} {dk : Int → Bool} {k j : Int} (f : Forms G) (h0 : 0 ≤ k ∧ k < G.length) (r : Rch G dk k j) : 0 ≤ j ∧ j ≤ k := by
  induction r with
  | root _ => exact ⟨h0.1, Int.le_refl _⟩
  | @step i j g r hg m _ ih =>
    obtain ⟨a1, a2⟩ := f.asc _ _ hg
    have := Asc.both a1 a2 _ m
    omega
end Mine
namespace Mine
open PySem PySem.Spec PyProof.Rows L2
open Sem (wp)
/-! {x}: a set of one int -/
def tSet1 (w : World) (te : TE) : TE := fun σ H Q => ∀ p, H p = none → te σ (upd H p (SetO w p (fun _ => false) 0)) fun v H1 => ∃ k : Int, v = V.int k ∧ H1 p = some (SetO w p (fun _ => false) 0) ∧ Q (.ref p) (upd H1 p (SetO w p (fun j => decide (j = k)) 1))
theorem code_kds {K : PySem.W.Frag} {cd : Value} {q : Str} (h : PySem.W.codeIn K cd q = true) : PySem.W.kdsCode K cd = true := by
  unfold PySem.W.codeIn at h
  unfold PySem.W.kdsCode
  split at h
  · split at h
    · rename_i e
      dsimp only
      rw [e]
    · cases h
  · cases h
theorem pe_set1 {X : Cx} {e : Expr} {te : TE} {pos : Pos} (hc : PySem.W.kdsCode X.K X.env.code = true) (he : PE X e te) (hs : starEach [e] X.env = [(false, eval e X.env)] := by rfl) : PE X (.Set [e] 0 pos) (tSet1 X.w te) := by
  refine ⟨fun pins s σ H Q I h => ?_⟩
  rw [arm_eval_Set]
  refine wpAny_bind (wpAny_standAt ?_)
  refine wpAny_bind (PySem.W.kds_main (I.kIn) hc fun b => ?_)
  rw [hs]
  unfold setDisplay
  dsimp only
  have road : (displayRoad 0 [e] == DisplayRoad.constants) = false := rfl
  rw [road, if_neg (by decide)]
  refine wpAny_bind (wpAny_newSet_raw fun led hl => ?_)
  subst hl
  have hn := I.hok.fresh (Nat.le_refl s.heap.objs.size)
  have R0 := setR_fresh (h := s.heap) X.w
  have I1 := I.laid (a := s.heap.objs.size) (o := SetO X.w s.heap.objs.size (fun _ => false) 0) (t' := s.toks) (fun _ _ q => Heap.get?_push_of_some _ q) (Nat.le_refl _) (setO_new R0)
  refine wpAny_bind (wpAny_holding ?_)
  refine wpAny_bind (m := evalAll [(do let v ← eval e X.env; standAt pos; pure v)]) ?_
  refine wpAny_mono (PySem.W.kds_all (env := X.env) pos [e] _ (fun vs s' => ∃ (k : Int) (tk : Tok) (H1 : Hp), vs = [Value.int k tk] ∧ Inv X pins σ H1 s' ∧ H1 s.heap.objs.size = some (SetO X.w s.heap.objs.size (fun _ => false) 0) ∧ Q (.ref s.heap.objs.size) (upd H1 s.heap.objs.size (SetO X.w s.heap.objs.size (fun j => decide (j = k)) 1))) ?_) (fun vs s' h' => ?_) fun _ _ x => x
  · refine thn (he.run pins _ σ _ _ I1 (h _ hn)) fun u s1 z => ?_
    obtain ⟨v, H1, I2, rv, k, rfl, hp, q⟩ := z
    obtain ⟨tk, rfl⟩ := rv
    exact ⟨k, tk, H1, rfl, I2, hp, q⟩
  · obtain ⟨k, tk, H1, rfl, I2, hp, q⟩ := h'
    refine wpAny_bind (wpAny_holding ?_)
    refine wpAny_bind ?_
    rw [List.forIn_cons]
    refine wpAny_bind (wpAny_bind ?_)
    unfold setAdd
    refine wpAny_holding ?_
    refine wpAny_bind ((intKind X.prog X.w).pyHash (k := k) (intKind_is _ _ _ _) ?_)
    refine setR_add_hashed (s := { s' with toks := s'.toks + 1 }) (show SetR X.w s'.heap s.heap.objs.size (fun _ => false) 0 from setO_get I2 hp) (by decide) fun h' sb R => ?_
    refine wpAny_pure ?_
    dsimp only
    rw [List.forIn_nil]
    refine wpAny_pure ?_
    have road2 : (displayRoad 0 [e] == DisplayRoad.unsure) = false := rfl
    rw [road2, if_neg (by decide)]
    refine wpAny_pure ?_
    show wpAny _ _ (forIn [] _ _ >>= _) _ _ _
    rw [List.forIn_nil]
    refine wpAny_pure (wpAny_pure ?_)
    have hex : ∃ u, h'.get? s.heap.objs.size = some u := by
      have ⟨o, _, _, _, ho, _⟩ := R
      exact ⟨o, ho⟩
    have R2 : SetR X.w h' s.heap.objs.size (fun j => decide (j = k)) 1 := R.congr fun j => by simp
    exact ⟨.ref s.heap.objs.size, _, I2.write (x := s.heap.objs.size) (e := s.heap.objs.size) (t' := s'.toks + 1) (by rw [hp]; exact True.intro) (.inl rfl) (fun b u hb y => (sb.2 b hb).trans y) hex (setO_new R2), rfl, q⟩
/-- a def whose body asks for its own code -/
theorem okC {P : Program} {w : World} {K : PySem.W.Frag} {mg : Str → Option Value} {base : Heap} {x qual : Str} {params : Arguments} {body : List Stmt} {scope : Scope} {dvs : List V} {kws : List (Str × V)} {f : Addr} {fd : FuncData} {CX : CXT} {N ps : List Str} {k : Nat} {sp : Sp}
    (F : FunD K x qual params body scope dvs kws f fd) (S : FnScope N ps scope) (len : ∀ vs H Q E, sp vs H Q E → vs.length = ps.length)
    (hbody : ∀ (cdv : Value), PySem.W.kdsCode K cdv = true → ∀ (A : Around) (outer : List Env) (s : Shared) (H : Hp) (vs : List V) (Q : VK) (E : XK), Room k (A.deeper (envOfC qual scope s.heap.objs.size f cdv)) → sp vs H Q E →
      ∃ t, PSs (cxOf CX P w K mg base N qual scope f cdv A outer s H E) body t ∧ t { nx := fun _ H' => Q .non H', rt := Q } (start N vs) H) : FnOk P w K mg base CX (k + 1) f fd ps sp := by
  obtain ⟨_, _, _, _, _, _, _, cdv, _, _, rfl, lk, hcd, _⟩ := F.ex
  exact fn_of lk hcd S len fun A outer s H vs Q E hr hsp => hbody cdv (code_kds hcd) A outer s H vs Q E hr hsp
end Mine
namespace Mine
open PySem PySem.Spec PyProof.Rows L2
open Evl (Ex)
section
variable {H : Hp} {Q : VK} {K : PySem.W.Frag} {w : World} {σ : L2.St}
theorem k_dnew (q : ∀ p, H p = none → Q (.ref p) (upd H p (.dK []))) : tDNewK σ H Q := q
theorem k_set1 {te : TE} (q : ∀ p, H p = none → te σ (upd H p (SetO w p (fun _ => false) 0)) fun v H1 => ∃ k : Int, v = V.int k ∧ H1 p = some (SetO w p (fun _ => false) 0) ∧ Q (.ref p) (upd H1 p (SetO w p (fun j => decide (j = k)) 1))) : tSet1 w te σ H Q := q
theorem k_sadd {te : TE} {t : TA} (q : te σ H fun x H1 => (∃ a S n, x = V.ref a ∧ H1 a = some (SetO w a S n)) ∧ t σ H1 fun xs H2 => rSAdd w x xs H2 Q) : tSAdd w te t σ H Q := q
theorem k_sIn {k : Int} {a : Addr} {S : Int → Bool} {n : Nat} (h : H a = some (SetO w a S n)) (q : Q (.bl (S k)) H) : rSIn w (.int k) (.ref a) H Q := ⟨k, a, S, n, rfl, rfl, h, q⟩
theorem k_sNot {k : Int} {a : Addr} {S : Int → Bool} {n : Nat} (h : H a = some (SetO w a S n)) (q : Q (.bl (!S k)) H) : rSNotIn w (.int k) (.ref a) H Q := ⟨k, a, S, n, rfl, rfl, h, q⟩
theorem k_gsub {to ti : TE} {t : TSet} {v : V} {R : L2.St → Hp → Prop} (q : to σ H fun o H1 => ti σ H1 fun i H2 => t o i v H2 fun H3 => R σ H3) : gSub to ti t v σ H R := q
theorem k_rng3 {ta : TA} {R : It → Hp → Prop} (q : ta σ H fun vs H1 => ∃ (i j c : Int) (n : Nat), vs = [V.int i, V.int j, V.int c] ∧ RgC i j c n ∧ R (Itc i c n) H1) : iRng3 ta σ H R := q
theorem k_tru {te : TE} {R : Bool → Hp → Prop} (q : te σ H fun x H' => ∃ k, TruV K x H' k ∧ R k H') : tTru K te σ H R := q
theorem tru_L {a : Addr} {xs : List V} {R : Bool → Prop} (h : SqL K H a xs) (q : R (!xs.isEmpty)) : ∃ k, TruV K (.ref a) H k ∧ R k := ⟨_, Or.inl ⟨xs, h, rfl⟩, q⟩
theorem k_rSAdd {a : Addr} {k : Int} {S : Int → Bool} {n : Nat} (h : H a = some (SetO w a S n)) (l : n ≤ 1000) (no : S k = false) (q : Q .non (upd H a (SetO w a (fun j => S j || decide (j = k)) (n + 1)))) : rSAdd w (.ref a) [.int k] H Q :=
  ⟨a, k, S, n, rfl, rfl, h, Nat.lt_of_le_of_lt (Nat.succ_le_succ l) (by decide), by rw [if_neg (by rw [no]; decide)]; exact q⟩
theorem k_rPop {l : Addr} {xs : List V} {y : V} (h : H l = some (.lst (xs ++ [y]))) (q : Q y (upd H l (.lst xs))) : rPop (.ref l) [] H Q :=
  ⟨l, xs ++ [y], y, rfl, rfl, h, by rw [List.length_append, List.length_singleton, Nat.add_sub_cancel, List.getElem?_append_right (Nat.le_refl _), Nat.sub_self]; rfl, by rw [List.dropLast_concat]; exact q⟩
theorem forK_tup {g : TG} {tb : TS} {D : Ends} {a : Addr} {xs : List V} (Pv : Nat → L2.St → Hp → Prop) (h0 : Pv 0 σ H) (hl : ∀ i σ' H', i ≤ xs.length → Pv i σ' H' → SqT K H' a xs)
    (hs : ∀ i x σ' H', xs[i]? = some x → Pv i σ' H' → g x σ' H' fun σ2 H2 => tb { D with nx := Pv (i + 1), ct := Pv (i + 1), bk := D.nx } σ2 H2) (hd : ∀ σ' H', Pv xs.length σ' H' → D.nx σ' H') : forK g tb D σ (Itt K a) H := for_tup Pv h0 hl hs hd
end
end Mine
namespace Mine
open PySem PySem.Spec PyProof.Rows L2
open Evl (Ex)
/-! games and their turned games: relations that are closed under the options -/
def Img (R : Int → Int → Prop) (as bs : List Int) : Prop := (∀ x ∈ as, ∃ y ∈ bs, R x y) ∧ ∀ y ∈ bs, ∃ x ∈ as, R x y
def Bis (G : List Pr) (R : Int → Int → Prop) : Prop := ∀ i j, R i j → ∃ (a b : Nat) (g h : Pr), i = a ∧ j = b ∧ G[a]? = some g ∧ G[b]? = some h ∧ Img R g.2 h.1 ∧ Img R g.1 h.2
theorem Img.mono {R S : Int → Int → Prop} {as bs : List Int} (f : ∀ i j, R i j → S i j) (x : Img R as bs) : Img S as bs :=
  ⟨fun i m => let ⟨j, mj, r⟩ := x.1 i m; ⟨j, mj, f _ _ r⟩, fun j m => let ⟨i, mi, r⟩ := x.2 j m; ⟨i, mi, f _ _ r⟩⟩
theorem Img.conv {R : Int → Int → Prop} {as bs : List Int} (x : Img R as bs) : Img (fun i j => R j i) bs as := ⟨x.2, x.1⟩
theorem Bis.conv {G : List Pr} {R : Int → Int → Prop} (b : Bis G R) : Bis G (fun i j => R j i) := fun i j r =>
  let ⟨a, c, g, h, ea, ec, hg, hh, i1, i2⟩ := b j i r
  ⟨c, a, h, g, ec, ea, hh, hg, i2.conv, i1.conv⟩
theorem Bis.goes {G G' : List Pr} {R : Int → Int → Prop} (b : Bis G R) (go : ∀ (i : Nat) (g : Pr), G[i]? = some g → G'[i]? = some g) : Bis G' R := fun i j r =>
  let ⟨a, c, g, h, ea, ec, hg, hh, i1, i2⟩ := b i j r
  ⟨a, c, g, h, ea, ec, go _ _ hg, go _ _ hh, i1, i2⟩
/-- R and a pair more, both ways round -/
def With (R : Int → Int → Prop) (f t : Int) : Int → Int → Prop := fun i j => R i j ∨ (i = f ∧ j = t) ∨ (i = t ∧ j = f)
def Wit1 (R : Int → Int → Prop) (f t : Int) : Int → Int → Prop := fun i j => R i j ∨ (i = f ∧ j = t)
theorem Bis.more1 {G : List Pr} {R : Int → Int → Prop} {f t : Nat} {g h : Pr} (b : Bis G R) (hg : G[f]? = some g) (hh : G[t]? = some h) (i1 : Img R g.2 h.1) (i2 : Img R g.1 h.2) : Bis G (Wit1 R f t) := by
  have up : ∀ i j, R i j → Wit1 R f t i j := fun _ _ r => Or.inl r
  rintro i j (r | ⟨rfl, rfl⟩)
  · obtain ⟨a, c, g, h, ea, ec, hg, hh, i1, i2⟩ := b i j r
    exact ⟨a, c, g, h, ea, ec, hg, hh, i1.mono up, i2.mono up⟩
  · exact ⟨f, t, g, h, rfl, rfl, hg, hh, i1.mono up, i2.mono up⟩
theorem Bis.more {G : List Pr} {R : Int → Int → Prop} {f t : Nat} {g h : Pr} (b : Bis G R) (s : ∀ i j, R i j → R j i) (hg : G[f]? = some g) (hh : G[t]? = some h) (i1 : Img R g.2 h.1) (i2 : Img R g.1 h.2) : Bis G (With R f t) := by
  have up : ∀ i j, R i j → With R f t i j := fun _ _ r => Or.inl r
  have sy : ∀ i j, R j i → With R f t i j := fun i j r => Or.inl (s _ _ r)
  rintro i j (r | ⟨rfl, rfl⟩ | ⟨rfl, rfl⟩)
  · obtain ⟨a, c, g, h, ea, ec, hg, hh, i1, i2⟩ := b i j r
    exact ⟨a, c, g, h, ea, ec, hg, hh, i1.mono up, i2.mono up⟩
  · exact ⟨f, t, g, h, rfl, rfl, hg, hh, i1.mono up, i2.mono up⟩
  · exact ⟨t, f, h, g, rfl, rfl, hh, hg, i2.conv.mono sy, i1.conv.mono sy⟩
theorem With.symm {R : Int → Int → Prop} {f t : Int} (s : ∀ i j, R i j → R j i) : ∀ i j, With R f t i j → With R f t j i := by
  rintro i j (r | ⟨e1, e2⟩ | ⟨e1, e2⟩)
  · exact Or.inl (s _ _ r)
  · exact Or.inr (Or.inr ⟨e2, e1⟩)
  · exact Or.inr (Or.inl ⟨e2, e1⟩)
theorem side_one {R S : Int → Int → Prop} {as bs cs : List Int} {a : Nat} (ih : ∀ x : Nat, x < a → ∀ j j', R x j → S x j' → j = j') (la : Asc a as) (x : Img R as bs) (y : Img S as cs) (ab : bs.Pairwise (· < ·)) (ac : cs.Pairwise (· < ·)) : bs = cs := by
  have key : ∀ z ∈ as, ∀ j j', R z j → S z j' → j = j' := fun z mz j j' r s => by
    have bz := la.2 z mz
    obtain ⟨zn, rfl⟩ : ∃ n : Nat, z = n := ⟨z.toNat, by omega⟩
    exact ih zn (by omega) j j' r s
  refine asc_ext ab ac fun k => ⟨fun m => ?_, fun m => ?_⟩
  · obtain ⟨z, mz, r⟩ := x.2 k m
    obtain ⟨k', mk', s⟩ := y.1 z mz
    rw [key z mz k k' r s]; exact mk'
  · obtain ⟨z, mz, s⟩ := y.2 k m
    obtain ⟨k', mk', r⟩ := x.1 z mz
    rw [← key z mz k' k r s]; exact mk'
theorem Bis.one {G : List Pr} {R S : Int → Int → Prop} (f : Forms G) (b : Bis G R) (b' : Bis G S) : ∀ n a : Nat, a < n → ∀ j j', R a j → S a j' → j = j' := by
  intro n
  induction n with
  | zero => intro a h; exact absurd h (Nat.not_lt_zero _)
  | succ n ih =>
    intro a ha j j' r s
    obtain ⟨a1, c1, g, h, ea, rfl, hg, hh, i1, i2⟩ := b _ _ r
    obtain ⟨a2, c2, g', h', ea', rfl, hg', hh', i1', i2'⟩ := b' _ _ s
    have e1 : a1 = a := by omega
    have e2 : a2 = a := by omega
    subst e1; subst e2
    rw [hg] at hg'
    injection hg' with hg'
    subst hg'
    obtain ⟨as1, as2⟩ := f.asc _ _ hg
    obtain ⟨bs1, bs2⟩ := f.asc _ _ hh
    obtain ⟨cs1, cs2⟩ := f.asc _ _ hh'
    have ih' : ∀ x : Nat, x < a2 → ∀ j j', R x j → S x j' → j = j' := fun x hx => ih x (by omega)
    have e1 := side_one ih' as2 i1 i1' bs1.1 cs1.1
    have e2 := side_one ih' as1 i2 i2' bs2.1 cs2.1
    have eh : h = h' := Prod.ext e1 e2
    subst eh
    rw [nodup_at f.one hh hh']
theorem Bis.fn {G : List Pr} {R S : Int → Int → Prop} (f : Forms G) (b : Bis G R) (b' : Bis G S) {i j j' : Int} (r : R i j) (s : S i j') : j = j' := by
  obtain ⟨a, _, _, _, rfl, _⟩ := b _ _ r
  exact Bis.one f b b' (a + 1) a (Nat.lt_succ_self _) _ _ r s
theorem Bis.nj {G : List Pr} {R S : Int → Int → Prop} (f : Forms G) (b : Bis G R) (b' : Bis G S) {i i' j : Int} (r : R i j) (s : S i' j) : i = i' := Bis.fn f b.conv b'.conv (i := j) r s
theorem isHt_iff {hs : List Int} {g h : Pr} {x y : Int} (gx : IsHt hs g x) (hy : IsHt hs h y) (e : ∀ z, z ∈ (g.1 ++ g.2).map (hat hs) ↔ z ∈ (h.1 ++ h.2).map (hat hs)) : x = y := by
  rcases gx with ⟨n1, rfl⟩ | ⟨m, mm, ml, rfl⟩
  · rcases hy with ⟨_, rfl⟩ | ⟨m', mm', _⟩
    · rfl
    · have := (e m').mpr mm'
      rw [n1] at this
      simp at this
  · rcases hy with ⟨n2, rfl⟩ | ⟨m', mm', ml', rfl⟩
    · have := (e m).mp mm
      rw [n2] at this
      simp at this
    · have a := ml' m ((e m).mp mm)
      have b := ml m' ((e m').mpr mm')
      omega
theorem Bis.ht {G : List Pr} {hs : List Int} {R : Int → Int → Prop} (f : Forms G) (o : HtOk G hs) (b : Bis G R) : ∀ n a : Nat, a < n → ∀ j, R a j → hat hs a = hat hs j := by
  intro n
  induction n with
  | zero => intro a h; exact absurd h (Nat.not_lt_zero _)
  | succ n ih =>
    intro a ha j r
    obtain ⟨a1, c1, g, h, ea, rfl, hg, hh, i1, i2⟩ := b _ _ r
    have e1 : a1 = a := by omega
    subst e1
    obtain ⟨as1, as2⟩ := f.asc _ _ hg
    have key : ∀ z ∈ g.1 ++ g.2, ∀ j, R z j → hat hs z = hat hs j := fun z mz j r => by
      have bz := Asc.both as1 as2 z mz
      obtain ⟨zn, rfl⟩ : ∃ n : Nat, z = n := ⟨z.toNat, by omega⟩
      exact ih zn (by omega) j r
    refine isHt_iff (o _ _ hg) (o _ _ hh) fun z => ?_
    rw [List.mem_map, List.mem_map]
    constructor
    · rintro ⟨x, mx, rfl⟩
      rcases List.mem_append.mp mx with m | m
      · obtain ⟨y, my, r⟩ := i2.1 x m
        exact ⟨y, List.mem_append_right _ my, (key x mx y r).symm⟩
      · obtain ⟨y, my, r⟩ := i1.1 x m
        exact ⟨y, List.mem_append_left _ my, (key x mx y r).symm⟩
    · rintro ⟨y, my, rfl⟩
      rcases List.mem_append.mp my with m | m
      · obtain ⟨x, mx, r⟩ := i1.2 y m
        exact ⟨x, List.mem_append_right _ mx, key x (List.mem_append_right _ mx) y r⟩
      · obtain ⟨x, mx, r⟩ := i2.2 y m
        exact ⟨x, List.mem_append_left _ mx, key x (List.mem_append_left _ mx) y r⟩
/-! the dict of the turned games -/
def gr (ts : List (Key × V)) (i j : Int) : Prop := valV ts (Sum.inl i) = some (V.int j)
structure TOk (G : List Pr) (ts : List (Key × V)) : Prop where
  bis : Bis G (gr ts)
  sym : ∀ i j, gr ts i j → gr ts j i
  ns : ∀ i, dkey ts i = true → ∃ j, gr ts i j
theorem gr_key {ts : List (Key × V)} {i j : Int} (r : gr ts i j) : dkey ts i = true := by unfold dkey; rw [r]; rfl
/-! how many are not turned yet -/
def Un (n : Nat) (dk : Int → Bool) : Nat := ((nums n).filter fun i => !dk i).length
theorem nums_nodup (n : Nat) : (nums n).Nodup := (nums_asc n).1.imp fun h => Int.ne_of_lt h
theorem un_mono {n : Nat} {dk dk' : Int → Bool} (h : ∀ i, dk i = true → dk' i = true) : Un n dk' ≤ Un n dk :=
  nodup_le _ _ ((nums_nodup n).filter _) fun x m => by
    rw [List.mem_filter] at m ⊢
    refine ⟨m.1, ?_⟩
    cases e : dk x with
    | false => rfl
    | true => have := m.2; rw [h x e] at this; cases this
theorem un_lt {n : Nat} {dk dk' : Int → Bool} {a : Int} (h : ∀ i, dk i = true → dk' i = true) (ha : 0 ≤ a ∧ a < n) (h0 : dk a = false) (h1 : dk' a = true) : Un n dk' + 1 ≤ Un n dk := by
  have z := nodup_le (a :: (nums n).filter fun i => !dk' i) ((nums n).filter fun i => !dk i) (List.nodup_cons.mpr ⟨fun m => (by
    have := (List.mem_filter.mp m).2
    rw [h1] at this; cases this), (nums_nodup n).filter _⟩) fun x m => by
    rcases List.mem_cons.mp m with rfl | m
    · exact List.mem_filter.mpr ⟨mem_nums.mpr ha, by rw [h0]; rfl⟩
    · rw [List.mem_filter] at m ⊢
      refine ⟨m.1, ?_⟩
      cases e : dk x with
      | false => rfl
      | true => have := m.2; rw [h x e] at this; cases this
  rw [List.length_cons] at z
  exact z
theorem un_succ (n : Nat) (dk : Int → Bool) : Un (n + 1) dk ≤ Un n dk + 1 := by
  unfold Un
  rw [nums_succ, List.filter_append, List.length_append]
  have : ([(n : Int)].filter fun i => !dk i).length ≤ 1 := Nat.le_trans (List.length_filter_le _ _) (Nat.le_refl _)
  omega
theorem un_key {n : Nat} {dk : Int → Bool} (h : dk (n : Int) = true) : Un (n + 1) dk = Un n dk := by
  unfold Un
  rw [nums_succ, List.filter_append, List.length_append]
  have e : ([(n : Int)].filter fun i => !dk i) = [] := by rw [List.filter_cons, h]; rfl
  rw [e]; rfl
def Phi (G : List Pr) (ts : List (Key × V)) : Nat := G.length + Un G.length (dkey ts)
theorem phi_le (G : List Pr) (ts : List (Key × V)) : G.length ≤ Phi G ts := Nat.le_add_right _ _
theorem phi_put {G G' : List Pr} {p : Pr} {i : Int} {ts : List (Key × V)} (h : Put G p i G') : Phi G' ts ≤ Phi G ts + 2 := by
  rcases h with ⟨_, _, _, rfl⟩ | ⟨_, _, rfl⟩
  · omega
  · unfold Phi
    have := un_succ G.length (dkey ts)
    rw [List.length_append, List.length_singleton]
    omega
end Mine
namespace Mine
open PySem PySem.Spec PyProof.Rows L2
open Evl (Ex)
theorem val_put (ts : List (Key × V)) (k j : Int) (v : V) : valV (putK ts (Sum.inl k) v) (Sum.inl j) = if j = k then some v else valV ts (Sum.inl j) := by
  rw [valV_put]
  by_cases h : j = k
  · subst h; rw [if_pos rfl, if_pos rfl]
  · rw [if_neg (fun e => h (Sum.inl.inj e)), if_neg h]
theorem dkey_put (ts : List (Key × V)) (k j : Int) (v : V) : dkey (putK ts (Sum.inl k) v) j = (decide (j = k) || dkey ts j) := by
  unfold dkey
  rw [val_put]
  by_cases h : j = k
  · rw [if_pos h, decide_eq_true h]; rfl
  · rw [if_neg h, decide_eq_false h]; rfl
theorem dkey_up (ts : List (Key × V)) (k : Int) (v : V) (i : Int) (h : dkey ts i = true) : dkey (putK ts (Sum.inl k) v) i = true := by rw [dkey_put, h, Bool.or_true]
theorem put_len (ts : List (Key × V)) {k : Int} (v : V) {n : Nat} (hk : 0 ≤ k ∧ k < n) : (putK ts (Sum.inl k) v).length + Un n (dkey (putK ts (Sum.inl k) v)) ≤ ts.length + Un n (dkey ts) := by
  have m := un_mono (n := n) (dkey_up ts k v)
  cases e : dkey ts k with
  | true =>
    have l : (putK ts (Sum.inl k) v).length = ts.length := by
      unfold putK
      rw [if_pos (by rw [valV_any]; exact e), List.length_map]
    omega
  | false =>
    have l : (putK ts (Sum.inl k) v).length = ts.length + 1 := by
      unfold putK
      rw [if_neg (by rw [valV_any]; intro z; unfold dkey at e; rw [e] at z; cases z), List.length_append]
      rfl
    have := un_lt (n := n) (dkey_up ts k v) hk e (by rw [dkey_put, decide_eq_true rfl]; rfl)
    omega
def LenOk (G : List Pr) (ts : List (Key × V)) : Prop := ts.length + Un G.length (dkey ts) ≤ G.length
theorem LenOk.put {G G' : List Pr} {p : Pr} {i : Int} {ts : List (Key × V)} (l : LenOk G ts) (h : Put G p i G') : LenOk G' ts := by
  rcases h with ⟨_, _, _, rfl⟩ | ⟨_, _, rfl⟩
  · exact l
  · unfold LenOk at *
    have := un_succ G.length (dkey ts)
    rw [List.length_append, List.length_singleton]
    omega
theorem LenOk.few {G : List Pr} {ts : List (Key × V)} (l : LenOk G ts) : ts.length ≤ G.length := by unfold LenOk at l; omega
theorem TOk.goes {G G' : List Pr} {ts : List (Key × V)} (T : TOk G ts) (go : ∀ (i : Nat) (g : Pr), G[i]? = some g → G'[i]? = some g) : TOk G' ts := ⟨T.bis.goes go, T.sym, T.ns⟩
/-- the dict behind two entries more -/
def two (ts : List (Key × V)) (f t : Int) : List (Key × V) := putK (putK ts (Sum.inl f) (V.int t)) (Sum.inl t) (V.int f)
theorem TOk.two {G : List Pr} {ts : List (Key × V)} (T : TOk G ts) (F : Forms G) {f t : Nat} {g h : Pr} (hg : G[f]? = some g) (hh : G[t]? = some h) (i1 : Img (gr ts) g.2 h.1) (i2 : Img (gr ts) g.1 h.2) :
    TOk G (two ts f t) ∧ gr (two ts f t) f t ∧ ∀ i, dkey (two ts f t) i = (decide (i = (t : Int)) || (decide (i = (f : Int)) || dkey ts i)) := by
  have bS := T.bis.more T.sym hg hh i1 i2
  have val : ∀ i, valV (Mine.two ts f t) (Sum.inl i) = if i = (t : Int) then some (V.int f) else if i = (f : Int) then some (V.int t) else valV ts (Sum.inl i) := fun i => by
    unfold Mine.two
    rw [val_put, val_put]
  have iff : ∀ i j, gr (Mine.two ts f t) i j ↔ With (gr ts) f t i j := fun i j => by
    unfold gr
    rw [val]
    constructor
    · intro e
      by_cases h1 : i = (t : Int)
      · rw [if_pos h1] at e
        injection e with e
        injection e with e
        exact Or.inr (Or.inr ⟨h1, e.symm⟩)
      · rw [if_neg h1] at e
        by_cases h2 : i = (f : Int)
        · rw [if_pos h2] at e
          injection e with e
          injection e with e
          exact Or.inr (Or.inl ⟨h2, e.symm⟩)
        · rw [if_neg h2] at e
          exact Or.inl e
    · intro r
      by_cases h1 : i = (t : Int)
      · subst h1
        rw [if_pos rfl, Bis.fn F bS bS r (show With (gr ts) f t t f from Or.inr (Or.inr ⟨rfl, rfl⟩))]
      · rw [if_neg h1]
        by_cases h2 : i = (f : Int)
        · subst h2
          rw [if_pos rfl, Bis.fn F bS bS r (show With (gr ts) f t f t from Or.inr (Or.inl ⟨rfl, rfl⟩))]
        · rw [if_neg h2]
          rcases r with r | ⟨e, _⟩ | ⟨e, _⟩
          · exact r
          · exact absurd e h2
          · exact absurd e h1
  have dk : ∀ i, dkey (Mine.two ts f t) i = (decide (i = (t : Int)) || (decide (i = (f : Int)) || dkey ts i)) := fun i => by
    unfold Mine.two
    rw [dkey_put, dkey_put]
  refine ⟨⟨fun i j r => ?_, fun i j r => (iff j i).mpr (With.symm T.sym i j ((iff i j).mp r)), fun i d => ?_⟩, (iff _ _).mpr (Or.inr (Or.inl ⟨rfl, rfl⟩)), dk⟩
  · obtain ⟨a, b, g, h, ea, eb, hg, hh, j1, j2⟩ := bS i j ((iff i j).mp r)
    exact ⟨a, b, g, h, ea, eb, hg, hh, j1.mono fun i j => (iff i j).mpr, j2.mono fun i j => (iff i j).mpr⟩
  · rw [dk, Bool.or_eq_true, Bool.or_eq_true, decide_eq_true_eq, decide_eq_true_eq] at d
    rcases d with rfl | rfl | d
    · exact ⟨_, (iff _ _).mpr (Or.inr (Or.inr ⟨rfl, rfl⟩))⟩
    · exact ⟨_, (iff _ _).mpr (Or.inr (Or.inl ⟨rfl, rfl⟩))⟩
    · obtain ⟨j, r⟩ := T.ns i d
      exact ⟨j, (iff _ _).mpr (Or.inl r)⟩
/-- a game in the dict has its turned game already -/
theorem TOk.there {G : List Pr} {ts : List (Key × V)} (T : TOk G ts) (F : Forms G) {f : Nat} {g p : Pr} (hg : G[f]? = some g) (d : dkey ts f = true) (i1 : Img (gr ts) g.2 p.1) (i2 : Img (gr ts) g.1 p.2) (a1 : p.1.Pairwise (· < ·)) (a2 : p.2.Pairwise (· < ·)) : p ∈ G := by
  obtain ⟨j, r⟩ := T.ns f d
  obtain ⟨a, b, g', h, ea, rfl, hg', hh, j1, j2⟩ := T.bis f j r
  have e : a = f := by omega
  subst e
  rw [hg] at hg'
  injection hg' with hg'
  subst hg'
  obtain ⟨as1, as2⟩ := F.asc _ _ hg
  obtain ⟨bs1, bs2⟩ := F.asc _ _ hh
  have ih : ∀ x : Nat, x < a → ∀ j j', gr ts x j → gr ts x j' → j = j' := fun x _ j j' r s => Bis.fn F T.bis T.bis r s
  have e1 := side_one ih as2 i1 j1 a1 bs1.1
  have e2 := side_one ih as1 i2 j2 a2 bs2.1
  have : p = h := Prod.ext e1 e2
  rw [this]
  exact List.mem_of_getElem? hh
def tvF (ts : List (Key × V)) : V → Option V := fun v => match v with | .int k => valV ts (Sum.inl k) | _ => none
theorem tv_list {ts : List (Key × V)} (ns : ∀ i, dkey ts i = true → ∃ j, gr ts i j) (inj : ∀ x x' y, gr ts x y → gr ts x' y → x = x') : ∀ l : List Int, l.Nodup → (∀ o ∈ l, dkey ts o = true) → ∃ ls : List Int, (l.map V.int).filterMap (tvF ts) = ls.map V.int ∧ Img (gr ts) l ls ∧ ls.Nodup ∧ ls.length = l.length
  | [], _, _ => ⟨[], rfl, ⟨fun x m => (nomatch m), fun x m => (nomatch m)⟩, .nil, rfl⟩
  | x :: l, nd, h => by
    obtain ⟨n1, n2⟩ := List.nodup_cons.mp nd
    obtain ⟨ls, e, im, nn, ll⟩ := tv_list ns inj l n2 fun o m => h o (List.mem_cons_of_mem _ m)
    obtain ⟨y, r⟩ := ns x (h x List.mem_cons_self)
    have ex : tvF ts (V.int x) = some (V.int y) := r
    refine ⟨y :: ls, by rw [List.map_cons, List.filterMap_cons, ex, e]; rfl, ⟨fun z m => ?_, fun z m => ?_⟩, List.nodup_cons.mpr ⟨fun m => ?_, nn⟩, by rw [List.length_cons, List.length_cons, ll]⟩
    · rcases List.mem_cons.mp m with rfl | m
      · exact ⟨y, List.mem_cons_self, r⟩
      · obtain ⟨w, mw, q⟩ := im.1 z m
        exact ⟨w, List.mem_cons_of_mem _ mw, q⟩
    · rcases List.mem_cons.mp m with rfl | m
      · exact ⟨x, List.mem_cons_self, r⟩
      · obtain ⟨w, mw, q⟩ := im.2 z m
        exact ⟨w, List.mem_cons_of_mem _ mw, q⟩
    · obtain ⟨w, mw, q⟩ := im.2 y m
      have := inj _ _ _ r q
      subst this
      exact n1 mw
theorem Img.perm {R : Int → Int → Prop} {as bs cs : List Int} (x : Img R as bs) (p : cs.Perm bs) : Img R as cs :=
  ⟨fun i m => let ⟨j, mj, r⟩ := x.1 i m; ⟨j, p.mem_iff.mpr mj, r⟩, fun j m => x.2 j (p.mem_iff.mp m)⟩
/-- the yard with another dict of the turned games -/
theorem YardAt.setT {P : Program} {w : World} {K : PySem.W.Frag} {H : Hp} {F : Foot} {G : List Pr} {hs : List Int} {ts ts' : List (Key × V)} (Y : YardAt P w K H F G hs ts) : YardAt P w K (upd H F.t (.dK ts')) F G hs ts' := by
  have k : ∀ c o, H c = some o → c ≠ F.t → upd H F.t (.dK ts') c = some o := fun c o z y => (upd_ne y).trans z
  have t : ∀ c zs, H c = some (.tup zs) → upd H F.t (.dK ts') c = some (.tup zs) := fun c zs z => k _ _ z (ne_of z Y.ts (by intro y; cases y))
  exact ⟨k _ _ Y.ins (ne_of Y.ins Y.ts (by intro y; cases y)), let ⟨xs, h1, h2⟩ := Y.ls; ⟨xs, k _ _ h1 (ne_of h1 Y.ts (by intro y; cases y)), h2.ex t⟩, let ⟨xs, h1, h2⟩ := Y.rs; ⟨xs, k _ _ h1 (ne_of h1 Y.ts (by intro y; cases y)), h2.ex t⟩,
    ⟨k _ _ Y.hs.1 (ne_of Y.hs.1 Y.ts (by intro y; cases y)), Y.hs.2⟩, let ⟨kvs, h1, h2, h3⟩ := Y.ns; ⟨kvs, k _ _ h1 (ne_of h1 Y.ts (by intro y; cases y)), fun x m => (h2 x m).ex t, h3⟩, upd_same, Y.ne, Y.ht, Y.G⟩
end Mine
namespace Mine
open PySem PySem.Spec PyProof.Rows L2
open Evl (Ex)
theorem Bis.iff {G : List Pr} {R S : Int → Int → Prop} (b : Bis G R) (e : ∀ i j, R i j ↔ S i j) : Bis G S := fun i j s =>
  let ⟨a, c, g, h, ea, ec, hg, hh, i1, i2⟩ := b i j ((e i j).mpr s)
  ⟨a, c, g, h, ea, ec, hg, hh, i1.mono fun i j => (e i j).mp, i2.mono fun i j => (e i j).mp⟩
/-- a list as a relation: place and item -/
def Rd (dl : List Int) (i j : Int) : Prop := ∃ n : Nat, i = n ∧ dl[n]? = some j
theorem rd_snoc (dl : List Int) (t i j : Int) : Wit1 (Rd dl) dl.length t i j ↔ Rd (dl ++ [t]) i j := by
  constructor
  · rintro (⟨n, rfl, h⟩ | ⟨rfl, rfl⟩)
    · exact ⟨n, rfl, by rw [List.getElem?_append_left (List.getElem?_eq_some_iff.mp h).1]; exact h⟩
    · exact ⟨dl.length, rfl, by rw [List.getElem?_append_right (Nat.le_refl _), Nat.sub_self]; rfl⟩
  · rintro ⟨n, rfl, h⟩
    rcases Nat.lt_or_ge n dl.length with l | l
    · rw [List.getElem?_append_left l] at h
      exact Or.inl ⟨n, rfl, h⟩
    · have l2 := (List.getElem?_eq_some_iff.mp h).1
      rw [List.length_append, List.length_singleton] at l2
      have e : n = dl.length := by omega
      subst e
      rw [List.getElem?_append_right (Nat.le_refl _), Nat.sub_self] at h
      injection h with h
      exact Or.inr ⟨rfl, h.symm⟩
def fd (dl : List Int) (k : Int) : Int := dl.getD k.toNat 0
theorem rd_fd {dl : List Int} {k : Int} (h0 : 0 ≤ k) (h1 : k < dl.length) : Rd dl k (fd dl k) := ⟨k.toNat, by omega, by
  unfold fd
  rw [List.getD_eq_getElem?_getD, List.getElem?_eq_getElem (by omega)]; rfl⟩
theorem rd_one {dl : List Int} {i j : Int} (r : Rd dl i j) : j = fd dl i := by
  obtain ⟨n, rfl, h⟩ := r
  unfold fd
  rw [Int.toNat_natCast, List.getD_eq_getElem?_getD, h]; rfl
theorem fd_at {dl : List Int} {k : Int} (h0 : 0 ≤ k) (h1 : k < dl.length) : atI (dl.map V.int) k = some (V.int (fd dl k)) := by
  obtain ⟨z, _, e, f⟩ := atI_in (ls := dl) h0 h1
  rw [e, f]; rfl
theorem img_fd {dl as os : List Int} (b : ∀ x ∈ os, 0 ≤ x ∧ x < (dl.length : Int)) (e : ∀ k, k ∈ as ↔ k ∈ os.map (fd dl)) : Img (Rd dl) os as :=
  ⟨fun x m => ⟨fd dl x, (e _).mpr (List.mem_map.mpr ⟨x, m, rfl⟩), rd_fd (b x m).1 (b x m).2⟩, fun y m => by
    obtain ⟨x, mx, rfl⟩ := List.mem_map.mp ((e y).mp m)
    exact ⟨x, mx, rd_fd (b x mx).1 (b x mx).2⟩⟩
end Mine
namespace Mine
open PySem PySem.Spec PyProof.Rows L2
theorem sorted_eq {dl os h ns' : List Int} (pm : ns'.Perm (os.map (fd dl))) (le : ns'.Pairwise (· ≤ ·)) (nd : os.Nodup) (inj : ∀ x ∈ os, ∀ y ∈ os, fd dl x = fd dl y → x = y) (im : Img (Rd dl) os h) (ah : h.Pairwise (· < ·)) : ns' = h := by
  have nn : (os.map (fd dl)).Nodup := List.pairwise_map.mpr (List.Pairwise.imp_of_mem (fun {a b} ma mb (n : a ≠ b) e => n (inj a ma b mb e)) nd)
  refine asc_ext (L2.lt_of_le_nodup ns' le (pm.nodup_iff.mpr nn)) ah fun k => ?_
  rw [pm.mem_iff, List.mem_map]
  constructor
  · rintro ⟨x, mx, rfl⟩
    obtain ⟨y, my, r⟩ := im.1 x mx
    rw [← rd_one r]; exact my
  · intro m
    obtain ⟨x, mx, r⟩ := im.2 k m
    exact ⟨x, mx, (rd_one r).symm⟩
end Mine
namespace Mine
open PySem PySem.Spec PyProof.Rows L2
/-! Two tellings of one family of forms: the law's model M and the yard's G; ns says under which number the yard holds the model's forms. -/
/-- the yard's number of the model's form j -/
def nat_ (ns : List Int) (j : Int) : Int := ns.getD j.toNat 0
/-- as: ascending, and what the yard calls the members of l -/
def Told (ns l as : List Int) : Prop := as.Pairwise (· < ·) ∧ ∀ x, x ∈ as ↔ ∃ j ∈ l, nat_ ns j = x
structure Emb (M G : List Pr) (ns : List Int) : Prop where
  len : M.length = ns.length
  nd : ns.Nodup
  rng : ∀ x ∈ ns, 0 ≤ x ∧ x < (G.length : Int)
  fm : ∀ (k : Nat) (p : Pr) (n : Int), M[k]? = some p → ns[k]? = some n → ∃ q, G[n.toNat]? = some q ∧ Told ns p.1 q.1 ∧ Told ns p.2 q.2
structure Iso (M G : List Pr) (ns : List Int) : Prop extends Emb M G ns where
  len2 : G.length = ns.length
theorem Told.one {ns l as bs : List Int} (a : Told ns l as) (b : Told ns l bs) : as = bs := asc_ext a.1 b.1 fun x => (a.2 x).trans (b.2 x).symm
theorem nat_get {ns : List Int} {j : Int} {m : Nat} (h0 : 0 ≤ j) (h : j < (m : Int)) (l : m = ns.length) : ns[j.toNat]? = some (nat_ ns j) := by
  unfold nat_
  rw [List.getD_eq_getElem?_getD, List.getElem?_eq_getElem (by omega)]; rfl
section
variable {M G : List Pr} {ns : List Int}
theorem Emb.inj (I : Emb M G ns) {j j' : Int} (h : 0 ≤ j ∧ j < (M.length : Int)) (h' : 0 ≤ j' ∧ j' < (M.length : Int)) (e : nat_ ns j = nat_ ns j') : j = j' := by
  have a := nat_get h.1 h.2 I.len
  have b := nat_get h'.1 h'.2 I.len
  rw [e] at a
  have := nodup_at I.nd a b
  omega
theorem Emb.inj_list (I : Emb M G ns) {l l' as : List Int} (b : ∀ x ∈ l, 0 ≤ x ∧ x < (M.length : Int)) (b' : ∀ x ∈ l', 0 ≤ x ∧ x < (M.length : Int)) (al : l.Pairwise (· < ·)) (al' : l'.Pairwise (· < ·)) (t : Told ns l as) (t' : Told ns l' as) : l = l' := by
  refine asc_ext al al' fun x => ⟨fun m => ?_, fun m => ?_⟩
  · obtain ⟨j, mj, e⟩ := (t'.2 _).mp ((t.2 _).mpr ⟨x, m, rfl⟩)
    rw [← I.inj (b' j mj) (b x m) e]; exact mj
  · obtain ⟨j, mj, e⟩ := (t.2 _).mp ((t'.2 _).mpr ⟨x, m, rfl⟩)
    rw [← I.inj (b j mj) (b' x m) e]; exact mj
theorem Iso.all (I : Iso M G ns) {n : Nat} (h : n < G.length) : ∃ k : Nat, ns[k]? = some (n : Int) := by
  have inn : (n : Int) ∈ ns := by
    refine Classical.byContradiction fun no => ?_
    have z := nodup_le ((n : Int) :: ns) ((List.range G.length).map fun (i : Nat) => (i : Int)) (List.nodup_cons.mpr ⟨no, I.nd⟩) fun x m => by
      rcases List.mem_cons.mp m with rfl | m
      · exact List.mem_map.mpr ⟨n, List.mem_range.mpr h, rfl⟩
      · have := I.rng x m
        exact List.mem_map.mpr ⟨x.toNat, List.mem_range.mpr (by omega), by omega⟩
    rw [List.length_cons, List.length_map, List.length_range] at z
    have := I.len2
    omega
  obtain ⟨k, hk⟩ := List.mem_iff_getElem?.mp inn
  exact ⟨k, hk⟩
/-- a form that the model holds, and what the yard calls it -/
theorem Emb.get (I : Emb M G ns) {k : Nat} {p : Pr} (h : M[k]? = some p) {as bs : List Int} (ta : Told ns p.1 as) (tb : Told ns p.2 bs) : G[(nat_ ns k).toNat]? = some (as, bs) := by
  have lk := (List.getElem?_eq_some_iff.mp h).1
  have e := nat_get (ns := ns) (j := (k : Int)) (by omega) (by omega) I.len
  rw [Int.toNat_natCast] at e
  obtain ⟨q, hq, t1, t2⟩ := I.fm k p _ h e
  rw [hq]; exact congrArg some (Prod.ext (t1.one ta) (t2.one tb))
theorem Iso.back (I : Iso M G ns) (FM : Forms M) {p : Pr} (ap : Asc M.length p.1 ∧ Asc M.length p.2) {as bs : List Int} (ta : Told ns p.1 as) (tb : Told ns p.2 bs) {n : Nat} (h : G[n]? = some (as, bs)) : ∃ k : Nat, M[k]? = some p ∧ nat_ ns k = n := by
  have ln := (List.getElem?_eq_some_iff.mp h).1
  obtain ⟨k, hk⟩ := I.all ln
  have lk := (List.getElem?_eq_some_iff.mp hk).1
  have hM : M[k]? = some (M[k]'(by rw [I.len]; exact lk)) := List.getElem?_eq_getElem _
  obtain ⟨q, hq, t1, t2⟩ := I.fm k _ _ hM hk
  rw [Int.toNat_natCast, h] at hq
  cases hq
  have am := FM.asc k _ hM
  have lt : ∀ {l : List Int}, Asc k l → ∀ x ∈ l, 0 ≤ x ∧ x < (M.length : Int) := fun a x m => by have := a.2 x m; have := I.len; omega
  have e1 := I.inj_list (lt am.1) ap.1.2 am.1.1 ap.1.1 t1 ta
  have e2 := I.inj_list (lt am.2) ap.2.2 am.2.1 ap.2.1 t2 tb
  refine ⟨k, by rw [hM]; exact congrArg some (Prod.ext e1 e2), ?_⟩
  unfold nat_
  rw [Int.toNat_natCast, List.getD_eq_getElem?_getD, hk]; rfl
theorem nat_app {ns : List Int} {n j : Int} (h0 : 0 ≤ j) (h : j < (ns.length : Int)) : nat_ (ns ++ [n]) j = nat_ ns j := by
  unfold nat_
  rw [List.getD_eq_getElem?_getD, List.getElem?_append_left (by omega), ← List.getD_eq_getElem?_getD]
theorem Told.app {l as : List Int} {n : Int} (b : ∀ x ∈ l, 0 ≤ x ∧ x < (ns.length : Int)) (t : Told ns l as) : Told (ns ++ [n]) l as :=
  ⟨t.1, fun x => (t.2 x).trans ⟨fun ⟨j, m, e⟩ => ⟨j, m, (nat_app (b j m).1 (b j m).2).trans e⟩, fun ⟨j, m, e⟩ => ⟨j, m, (nat_app (b j m).1 (b j m).2).symm.trans e⟩⟩⟩
/-- one form is put into both: found in both, or new in both -/
theorem Iso.put (I : Iso M G ns) (FM : Forms M) {p : Pr} (ap : Asc M.length p.1 ∧ Asc M.length p.2) {as bs : List Int} (ta : Told ns p.1 as) (tb : Told ns p.2 bs) {i n : Int} {M' G' : List Pr} (hm : Put M p i M') (hg : Put G (as, bs) n G') :
    (∃ k : Nat, i = k ∧ k < ns.length ∧ M' = M ∧ G' = G ∧ nat_ ns k = n) ∨ (i = ns.length ∧ M' = M ++ [p] ∧ G' = G ++ [(as, bs)] ∧ n = ns.length ∧ Iso M' G' (ns ++ [n])) := by
  have e1 := I.len
  have e2 := I.len2
  rcases hm with ⟨k, rfl, hk, rfl⟩ | ⟨no, rfl, rfl⟩
  · have g := I.get hk ta tb
    have lk := (List.getElem?_eq_some_iff.mp hk).1
    refine Or.inl ⟨k, rfl, by omega, rfl, ?_⟩
    rcases hg with ⟨j, rfl, hj, rfl⟩ | ⟨no, _, _⟩
    · obtain ⟨k2, hk2, en⟩ := I.back FM ap ta tb hj
      have := nodup_at FM.one hk hk2
      subst this
      exact ⟨rfl, en⟩
    · exact absurd (List.mem_of_getElem? g) no
  · refine Or.inr ⟨by omega, rfl, ?_⟩
    rcases hg with ⟨j, rfl, hj, rfl⟩ | ⟨_, rfl, rfl⟩
    · obtain ⟨k2, hk2, _⟩ := I.back FM ap ta tb hj
      exact absurd (List.mem_of_getElem? hk2) no
    · have lts : ∀ {l : List Int} {m : Nat}, m ≤ ns.length → Asc m l → ∀ x ∈ l, 0 ≤ x ∧ x < (ns.length : Int) := fun hm a x m => by have := a.2 x m; omega
      refine ⟨rfl, by omega, ⟨⟨by simp only [List.length_append, List.length_singleton]; omega, ?_, ?_, ?_⟩, by simp only [List.length_append, List.length_singleton]; omega⟩⟩
      · refine List.nodup_append.mpr ⟨I.nd, List.nodup_cons.mpr ⟨(fun m => nomatch m), List.nodup_nil⟩, fun x mx y my e => ?_⟩
        have := I.rng x mx
        have : y = G.length := by simpa using my
        omega
      · intro x m
        rw [List.length_append, List.length_singleton]
        rcases List.mem_append.mp m with m | m
        · have := I.rng x m; omega
        · have : x = G.length := by simpa using m
          omega
      · intro k q n hk hn
        by_cases lk : k < ns.length
        · rw [List.getElem?_append_left (by omega)] at hk
          rw [List.getElem?_append_left lk] at hn
          obtain ⟨r, hr, t1, t2⟩ := I.fm k q n hk hn
          have am := FM.asc k q hk
          have := (List.getElem?_eq_some_iff.mp hr).1
          exact ⟨r, by rw [List.getElem?_append_left this]; exact hr, t1.app (lts (by omega) am.1), t2.app (lts (by omega) am.2)⟩
        · have lk2 := (List.getElem?_eq_some_iff.mp hn).1
          rw [List.length_append, List.length_singleton] at lk2
          have : k = ns.length := by omega
          subst this
          rw [List.getElem?_append_right (Nat.le_refl _), Nat.sub_self] at hn
          rw [List.getElem?_append_right (by omega), e1, Nat.sub_self] at hk
          cases hk; cases hn
          refine ⟨(as, bs), ?_, ta.app (lts (by omega) ap.1), tb.app (lts (by omega) ap.2)⟩
          rw [Int.toNat_natCast, List.getElem?_append_right (Nat.le_refl _), Nat.sub_self]; rfl
/-- one form that the yard holds as m is put into the model: found there under m's number, or new -/
theorem Emb.put (I : Emb M G ns) (FM : Forms M) (FG : G.Nodup) {p : Pr} (ap : Asc M.length p.1 ∧ Asc M.length p.2) {q : Pr} {m : Nat} (hq : G[m]? = some q) (ta : Told ns p.1 q.1) (tb : Told ns p.2 q.2) {i : Int} {M' : List Pr} (hm : Put M p i M') :
    ∃ ns', Emb M' G ns' ∧ nat_ ns' i = m ∧ (∀ j : Int, 0 ≤ j → j < (ns.length : Int) → nat_ ns' j = nat_ ns j) ∧ (∀ x ∈ ns, x ∈ ns') ∧ (∃ e, ns' = ns ++ e) := by
  have e1 := I.len
  have lts : ∀ {l : List Int} {n : Nat}, n ≤ ns.length → Asc n l → ∀ x ∈ l, 0 ≤ x ∧ x < (ns.length : Int) := fun hm a x m => by have := a.2 x m; omega
  have lm := (List.getElem?_eq_some_iff.mp hq).1
  have uniq : ∀ k : Nat, ns[k]? = some (m : Int) → M[k]? = some p := fun k hk => by
    have lk := (List.getElem?_eq_some_iff.mp hk).1
    have hM : M[k]? = some (M[k]'(by rw [e1]; exact lk)) := List.getElem?_eq_getElem _
    obtain ⟨r, hr, t1, t2⟩ := I.fm k _ _ hM hk
    rw [Int.toNat_natCast, hq] at hr
    cases hr
    have am := FM.asc k _ hM
    have z1 := I.inj_list (fun x m => by have := am.1.2 x m; omega) ap.1.2 am.1.1 ap.1.1 t1 ta
    have z2 := I.inj_list (fun x m => by have := am.2.2 x m; omega) ap.2.2 am.2.1 ap.2.1 t2 tb
    rw [hM]; exact congrArg some (Prod.ext z1 z2)
  rcases hm with ⟨k, rfl, hk, rfl⟩ | ⟨no, rfl, rfl⟩
  · refine ⟨ns, I, ?_, fun _ _ _ => rfl, fun _ m => m, [], by rw [List.append_nil]⟩
    have lk := (List.getElem?_eq_some_iff.mp hk).1
    have e := nat_get (ns := ns) (j := (k : Int)) (by omega) (by omega) I.len
    rw [Int.toNat_natCast] at e
    obtain ⟨r, hr, t1, t2⟩ := I.fm k p _ hk e
    have er : r = q := Prod.ext (t1.one ta) (t2.one tb)
    have z := I.rng _ (List.mem_of_getElem? e)
    rw [er] at hr
    have := nodup_at FG hr hq
    omega
  · have nm : (m : Int) ∉ ns := fun mm => by
      obtain ⟨k, hk⟩ := List.mem_iff_getElem?.mp mm
      exact no (List.mem_of_getElem? (uniq k hk))
    refine ⟨ns ++ [(m : Int)], ⟨by simp only [List.length_append, List.length_singleton]; omega, ?_, ?_, ?_⟩, ?_, fun j h0 h => nat_app h0 h, fun x h => List.mem_append_left _ h, _, rfl⟩
    · refine List.nodup_append.mpr ⟨I.nd, List.nodup_cons.mpr ⟨(fun m => nomatch m), List.nodup_nil⟩, fun x mx y my e => ?_⟩
      have : y = (m : Int) := by simpa using my
      exact nm (by rw [← this, ← e]; exact mx)
    · intro x h
      rcases List.mem_append.mp h with h | h
      · exact I.rng x h
      · have : x = (m : Int) := by simpa using h
        omega
    · intro k r n hk hn
      by_cases lk : k < ns.length
      · rw [List.getElem?_append_left (by omega)] at hk
        rw [List.getElem?_append_left lk] at hn
        obtain ⟨r', hr, t1, t2⟩ := I.fm k r n hk hn
        have am := FM.asc k r hk
        exact ⟨r', hr, t1.app (lts (by omega) am.1), t2.app (lts (by omega) am.2)⟩
      · have lk2 := (List.getElem?_eq_some_iff.mp hn).1
        rw [List.length_append, List.length_singleton] at lk2
        have : k = ns.length := by omega
        subst this
        rw [List.getElem?_append_right (Nat.le_refl _), Nat.sub_self] at hn
        rw [List.getElem?_append_right (by omega), e1, Nat.sub_self] at hk
        cases hk; cases hn
        exact ⟨q, by rw [Int.toNat_natCast]; exact hq, ta.app (lts (by omega) ap.1), tb.app (lts (by omega) ap.2)⟩
    · unfold nat_
      rw [e1, Int.toNat_natCast, List.getD_eq_getElem?_getD, List.getElem?_append_right (Nat.le_refl _), Nat.sub_self]; rfl
/-- all that the yard holds has a name in the model -/
theorem Emb.full (I : Emb M G ns) (h : ∀ i : Nat, i < G.length → (i : Int) ∈ ns) : Iso M G ns := by
  refine ⟨I, ?_⟩
  have a := nodup_le ns ((List.range G.length).map fun (i : Nat) => (i : Int)) I.nd fun x m => by
    have := I.rng x m
    exact List.mem_map.mpr ⟨x.toNat, List.mem_range.mpr (by omega), by omega⟩
  have b := nodup_le ((List.range G.length).map fun (i : Nat) => (i : Int)) ns (List.Pairwise.map _ (fun x y (h : x ≠ y) => by omega) List.nodup_range) fun x m => by
    obtain ⟨i, mi, rfl⟩ := List.mem_map.mp m
    exact h i (List.mem_range.mp mi)
  rw [List.length_map, List.length_range] at a b
  omega
theorem dkey_nil (j : Int) : dkey [] j = false := rfl
theorem Rch.any {dk : Int → Bool} {k j : Int} (r : Rch G dk k j) : Rch G (dkey []) k j := by
  induction r with
  | root _ => exact .root (dkey_nil _)
  | step _ hg m _ ih => exact .step ih hg m (dkey_nil _)
/-- who follows in the model follows in the yard -/
theorem Emb.rch (I : Emb M G ns) (FM : Forms M) {k j : Int} (h0 : 0 ≤ k ∧ k < (M.length : Int)) (r : Rch M (dkey []) k j) : (0 ≤ j ∧ j < (M.length : Int)) ∧ Rch G (dkey []) (nat_ ns k) (nat_ ns j) := by
  have bd : 0 ≤ j ∧ j < (M.length : Int) := by have := Rch.bound FM h0 r; omega
  refine ⟨bd, ?_⟩
  induction r with
  | root _ => exact .root (dkey_nil _)
  | @step i x g r hg m dx ih =>

    have bi : 0 ≤ i ∧ i < (M.length : Int) := by have := Rch.bound FM h0 r; omega
    have e := nat_get (ns := ns) bi.1 bi.2 I.len
    obtain ⟨q, hq, t1, t2⟩ := I.fm _ _ _ hg e
    refine .step (ih bi) hq ?_ (dkey_nil _)
    rcases List.mem_append.mp m with m | m
    · exact List.mem_append_left _ ((t1.2 _).mpr ⟨x, m, rfl⟩)
    · exact List.mem_append_right _ ((t2.2 _).mpr ⟨x, m, rfl⟩)
/-- who follows in the yard has a name that follows in the model -/
theorem Emb.rch_back (I : Emb M G ns) (FM : Forms M) {k x : Int} (h0 : 0 ≤ k ∧ k < (M.length : Int)) (r : Rch G (dkey []) (nat_ ns k) x) : ∃ j, Rch M (dkey []) k j ∧ (0 ≤ j ∧ j < (M.length : Int)) ∧ nat_ ns j = x := by
  induction r with
  | root _ => exact ⟨k, .root (dkey_nil _), h0, rfl⟩
  | @step i x g r hg m dx ih =>

    obtain ⟨j, rj, bj, rfl⟩ := ih
    have lj : j.toNat < M.length := by omega
    have hM : M[j.toNat]? = some M[j.toNat] := List.getElem?_eq_getElem lj
    have e := nat_get (ns := ns) bj.1 bj.2 I.len
    obtain ⟨q, hq, t1, t2⟩ := I.fm _ _ _ hM e
    rw [hg] at hq
    cases hq
    have am := FM.asc _ _ hM
    rcases List.mem_append.mp m with m | m
    · obtain ⟨o, mo, rfl⟩ := (t1.2 _).mp m
      have := am.1.2 o mo
      exact ⟨o, .step rj hM (List.mem_append_left _ mo) (dkey_nil _), by omega, rfl⟩
    · obtain ⟨o, mo, rfl⟩ := (t2.2 _).mp m
      have := am.2.2 o mo
      exact ⟨o, .step rj hM (List.mem_append_right _ mo) (dkey_nil _), by omega, rfl⟩
/-- one side of a mirror -/
theorem told_mirror {ts : List (Key × V)} (FG : Forms G) (T : TOk G ts) {l as g h : List Int} {tm : Int → Int} (tg : Told ns l g) (im : Img (gr ts) g h) (ah : h.Pairwise (· < ·)) (aa : as.Pairwise (· < ·)) (ma : ∀ j, j ∈ as ↔ ∃ o ∈ l, tm o = j)
    (tr : ∀ o ∈ l, gr ts (nat_ ns o) (nat_ ns (tm o))) : Told ns as h := by
  refine ⟨ah, fun x => ⟨fun m => ?_, fun ⟨j, mj, e⟩ => ?_⟩⟩
  · obtain ⟨y, my, r⟩ := im.2 x m
    obtain ⟨o, mo, rfl⟩ := (tg.2 y).mp my
    exact ⟨tm o, (ma _).mpr ⟨o, mo, rfl⟩, Bis.fn FG T.bis T.bis (tr o mo) r⟩
  · obtain ⟨o, mo, rfl⟩ := (ma j).mp mj
    obtain ⟨z, mz, r⟩ := im.1 _ ((tg.2 _).mpr ⟨o, mo, rfl⟩)
    rw [← e, Bis.fn FG T.bis T.bis (tr o mo) r]; exact mz
/-- the mirror of one form is put into the model, the yard holds it already -/
theorem Emb.mirror {ts : List (Key × V)} (I : Emb M G ns) (FM : Forms M) (FG : Forms G) (T : TOk G ts) {f : Nat} {pf p : Pr} (hf : M[f]? = some pf) {tf : Int} (gt : gr ts (nat_ ns f) tf) {tm : Int → Int}
    (tr : ∀ o ∈ pf.1 ++ pf.2, gr ts (nat_ ns o) (nat_ ns (tm o))) (ap : Asc M.length p.1 ∧ Asc M.length p.2) (m1 : ∀ j, j ∈ p.1 ↔ ∃ o ∈ pf.2, tm o = j) (m2 : ∀ j, j ∈ p.2 ↔ ∃ o ∈ pf.1, tm o = j) {i : Int} {M' : List Pr} (hm : Put M p i M') :
    ∃ ns', Emb M' G ns' ∧ nat_ ns' i = tf ∧ gr ts (nat_ ns' f) (nat_ ns' i) ∧ ∃ e, ns' = ns ++ e := by
  obtain ⟨a, b, g, h, ea, eb, hg, hh, i1, i2⟩ := T.bis _ _ gt
  have lf := (List.getElem?_eq_some_iff.mp hf).1
  have e := nat_get (ns := ns) (j := (f : Int)) (by omega) (by omega) I.len
  rw [Int.toNat_natCast] at e
  obtain ⟨q, hq, t1, t2⟩ := I.fm f pf _ hf e
  rw [ea, Int.toNat_natCast, hg] at hq
  cases hq
  have ah := FG.asc b h hh
  have k1 := told_mirror FG T t2 i1 ah.1.1 ap.1.1 m1 fun o m => tr o (List.mem_append_right _ m)
  have k2 := told_mirror FG T t1 i2 ah.2.1 ap.2.1 m2 fun o m => tr o (List.mem_append_left _ m)
  obtain ⟨ns', I', en, old, _, ex⟩ := I.put FM FG.one ap hh k1 k2 hm
  refine ⟨ns', I', en.trans eb.symm, ?_, ex⟩
  rw [en, old f (by omega) (by have := I.len; omega), ← eb]; exact gt
theorem nat_appL {e : List Int} {j : Int} (h0 : 0 ≤ j) (h : j < (ns.length : Int)) : nat_ (ns ++ e) j = nat_ ns j := by
  unfold nat_
  rw [List.getD_eq_getElem?_getD, List.getElem?_append_left (by omega), ← List.getD_eq_getElem?_getD]
/-- the end of a turn: all followers' mirrors stand in the model, so both hold the same forms -/
theorem Iso.turned {M' G' : List Pr} {e : List Int} {ts : List (Key × V)} {dk : Int → Bool} {k : Int} {tm : Int → Int} (I : Iso M G ns) (FM : Forms M) (FG : Forms G') (T : TOk G' ts) (hk : 0 ≤ k ∧ k < (M.length : Int))
    (nw : ∀ i : Nat, G.length ≤ i → i < G'.length → ∃ j, gr ts j i ∧ Rch G dk (nat_ ns k) j) (I' : Emb M' G' (ns ++ e))
    (done : ∀ f, Rch M (dkey []) k f → (0 ≤ tm f ∧ tm f < (M'.length : Int)) ∧ gr ts (nat_ (ns ++ e) f) (nat_ (ns ++ e) (tm f))) : Iso M' G' (ns ++ e) := by
  refine I'.full fun i hi => ?_
  by_cases c : i < G.length
  · obtain ⟨k, hk⟩ := I.all c
    exact List.mem_append_left _ (List.mem_of_getElem? hk)
  · obtain ⟨j, r, rc⟩ := nw i (by omega) hi
    obtain ⟨f, rf, bf, ej⟩ := I.toEmb.rch_back FM hk rc.any
    obtain ⟨bt, g2⟩ := done f rf
    rw [nat_appL bf.1 (by have := I.len; omega), ej] at g2
    rw [Bis.fn FG T.bis T.bis r g2]
    exact List.mem_of_getElem? (nat_get bt.1 bt.2 I'.len)
/-- the yard grows, the model stays -/
theorem Emb.goes {G' : List Pr} (I : Emb M G ns) (go : ∀ (i : Nat) (g : Pr), G[i]? = some g → G'[i]? = some g) (le : G.length ≤ G'.length) : Emb M G' ns :=
  ⟨I.len, I.nd, fun x m => by have := I.rng x m; omega, fun k p n hk hn => let ⟨q, hq, t1, t2⟩ := I.fm k p n hk hn; ⟨q, go _ _ hq, t1, t2⟩⟩
end
end Mine
namespace Mine
open PySem PySem.Spec PyProof.Rows L2
open Evl (Ex)
/-! A yard and the law's own telling of it, side by side with another such pair. -/
theorem isHt_iff2 {hs hs' : List Int} {g h : Pr} {x y : Int} (gx : IsHt hs g x) (hy : IsHt hs' h y) (e : ∀ z, z ∈ (g.1 ++ g.2).map (hat hs) ↔ z ∈ (h.1 ++ h.2).map (hat hs')) : x = y := by
  rcases gx with ⟨n1, rfl⟩ | ⟨m, mm, ml, rfl⟩
  · rcases hy with ⟨_, rfl⟩ | ⟨m', mm', _⟩
    · rfl
    · have := (e m').mpr mm'
      rw [n1] at this
      simp at this
  · rcases hy with ⟨n2, rfl⟩ | ⟨m', mm', ml', rfl⟩
    · have := (e m).mp mm
      rw [n2] at this
      simp at this
    · have a := ml' m ((e m).mp mm)
      have b := ml m' ((e m').mpr mm')
      omega
theorem Told.hts {ns l as : List Int} {f g : Int → Int} (t : Told ns l as) (e : ∀ j ∈ l, f j = g (nat_ ns j)) (z : Int) : (∃ j ∈ l, f j = z) ↔ ∃ x ∈ as, g x = z := by
  constructor
  · rintro ⟨j, mj, rfl⟩
    exact ⟨_, (t.2 _).mpr ⟨j, mj, rfl⟩, (e j mj).symm⟩
  · rintro ⟨x, mx, rfl⟩
    obtain ⟨j, mj, rfl⟩ := (t.2 x).mp mx
    exact ⟨j, mj, e j mj⟩
/-- the law's heights are the yard's -/
theorem Emb.ht {M G : List Pr} {ns hts hs : List Int} (I : Emb M G ns) (FM : Forms M) (o : HtOk M hts) (o' : HtOk G hs) : ∀ (n k : Nat), k < n → k < M.length → hat hts k = hat hs (nat_ ns k) := by
  intro n
  induction n with
  | zero => intro k h; exact absurd h (Nat.not_lt_zero _)
  | succ n ih =>
    intro k hk hl
    have hM : M[k]? = some M[k] := List.getElem?_eq_getElem hl
    have e := nat_get (ns := ns) (j := (k : Int)) (by omega) (by omega) I.len
    rw [Int.toNat_natCast] at e
    obtain ⟨q, hq, t1, t2⟩ := I.fm k _ _ hM e
    have am := FM.asc k _ hM
    have bd := I.rng _ (List.mem_of_getElem? e)
    have oy := o' _ _ hq
    rw [show (((nat_ ns k).toNat : Nat) : Int) = nat_ ns k by omega] at oy
    have key : ∀ z ∈ M[k].1 ++ M[k].2, hat hts z = hat hs (nat_ ns z) := fun z mz => by
      have b := Asc.both am.1 am.2 z mz
      have := ih z.toNat (by omega) (by omega)
      rwa [show ((z.toNat : Nat) : Int) = z by omega] at this
    refine isHt_iff2 (o k _ hM) oy fun z => ?_
    have a1 := t1.hts (fun j m => key j (List.mem_append_left _ m)) z
    have a2 := t2.hts (fun j m => key j (List.mem_append_right _ m)) z
    rw [List.mem_map, List.mem_map]
    constructor
    · rintro ⟨x, mx, rfl⟩
      rcases List.mem_append.mp mx with m | m
      · obtain ⟨y, my, e⟩ := a1.mp ⟨x, m, rfl⟩; exact ⟨y, List.mem_append_left _ my, e⟩
      · obtain ⟨y, my, e⟩ := a2.mp ⟨x, m, rfl⟩; exact ⟨y, List.mem_append_right _ my, e⟩
    · rintro ⟨x, mx, rfl⟩
      rcases List.mem_append.mp mx with m | m
      · obtain ⟨y, my, e⟩ := a1.mpr ⟨x, m, rfl⟩; exact ⟨y, List.mem_append_left _ my, e⟩
      · obtain ⟨y, my, e⟩ := a2.mpr ⟨x, m, rfl⟩; exact ⟨y, List.mem_append_right _ my, e⟩
theorem Emb.le {M G : List Pr} {ns : List Int} (I : Emb M G ns) : M.length ≤ G.length := by
  have a := nodup_le ns ((List.range G.length).map fun (i : Nat) => (i : Int)) I.nd fun x m => by
    have := I.rng x m
    exact List.mem_map.mpr ⟨x.toNat, List.mem_range.mpr (by omega), by omega⟩
  rw [List.length_map, List.length_range] at a
  have := I.len
  omega
theorem sd_max (l : List Int) (f : Int → Int) (m : Int) (h : m ∈ (0 :: l.map fun k => 1 + f k)) (u : ∀ y ∈ (0 :: l.map fun k => 1 + f k), y ≤ m) (ne : l ≠ []) (nn : ∀ k ∈ l, 0 ≤ f k) : ∃ x, x ∈ l.map f ∧ (∀ y ∈ l.map f, y ≤ x) ∧ m = 1 + x := by
  have up : ∀ y ∈ l.map f, y ≤ m - 1 := fun y my => by
    obtain ⟨k, mk, rfl⟩ := List.mem_map.mp my
    have := u (1 + f k) (List.mem_cons_of_mem _ (List.mem_map.mpr ⟨k, mk, rfl⟩))
    omega
  rcases List.mem_cons.mp h with e | h
  · subst e
    cases l with
    | nil => exact absurd rfl ne
    | cons k l =>
      have h1 := up (f k) (by simp)
      have h2 := nn k List.mem_cons_self
      omega
  · obtain ⟨k, mk, e⟩ := List.mem_map.mp h
    exact ⟨f k, List.mem_map.mpr ⟨k, mk, rfl⟩, fun y my => by have := up y my; omega, by omega⟩
theorem sd_nn {G : List Pr} {hs : List Int} (o : HtOk G hs) (f : Forms G) : ∀ (n i : Nat), i < n → i < G.length → 0 ≤ hat hs i := by
  intro n
  induction n with
  | zero => intro i h; exact absurd h (Nat.not_lt_zero _)
  | succ n ih =>
    intro i hi hl
    rcases o i G[i] (List.getElem?_eq_getElem hl) with ⟨_, h⟩ | ⟨m, mm, _, h⟩
    · omega
    · obtain ⟨k, mk, e⟩ := List.mem_map.mp mm
      obtain ⟨a1, a2⟩ := f.asc i G[i] (List.getElem?_eq_getElem hl)
      have b := Asc.both a1 a2 k mk
      have := ih k.toNat (by omega) (by omega)
      rw [show ((k.toNat : Nat) : Int) = k by omega] at this
      omega
theorem sd_put {G G' : List Pr} {p : Pr} {i : Int} {hts hts' : List Int} (h : HgtL G hts p hts') (pt : Put G p i G') (o : HtOk G hts) (l : hts.length = G.length) (f : Forms G) (a : Asc G.length p.1) (b : Asc G.length p.2) : HtOk G' hts' := by
  rcases h with ⟨mem, rfl⟩ | ⟨nm, m, rfl, mm, ml⟩
  · rcases pt with ⟨_, _, _, rfl⟩ | ⟨n, _, _⟩
    · exact o
    · exact absurd mem n
  · rcases pt with ⟨k, _, hk, _⟩ | ⟨_, _, rfl⟩
    · exact absurd (List.mem_of_getElem? hk) nm
    · refine o.snoc l f a b ?_
      by_cases e : p.1 ++ p.2 = []
      · left
        refine ⟨e, ?_⟩
        rw [e] at mm
        simpa using mm
      · right
        exact sd_max _ _ _ mm ml e fun k mk => by
          have bk := Asc.both a b k mk
          have := sd_nn o f (k.toNat + 1) k.toNat (Nat.lt_succ_self _) (by omega)
          rw [show ((k.toNat : Nat) : Int) = k by omega] at this
          exact this
theorem sd_zero {G : List Pr} {hs : List Int} (o : HtOk G hs) (f : Forms G) : hat hs 0 = 0 := by
  rcases o 0 _ f.zero with ⟨_, h⟩ | ⟨m, mm, _⟩
  · exact h
  · simp at mm
/-- new objects, all unlike each other -/
structure NL (H0 H : Hp) (l : List Addr) : Prop where
  e : Ex H0 H
  nd : l.Nodup
  fr : ∀ x ∈ l, H0 x = none ∧ H x ≠ none
theorem NL.nil (H : Hp) : NL H H [] := ⟨Ex.refl _, List.nodup_nil, fun x m => nomatch m⟩
theorem NL.cons {H0 H H' : Hp} {l : List Addr} {x : Addr} {o : HO} (n : NL H0 H l) (h : H x = none) (e : Ex H H') (s : H' x = some o) : NL H0 H' (x :: l) := by
  refine ⟨n.e.trans e, List.nodup_cons.mpr ⟨fun m => (n.fr x m).2 h, n.nd⟩, fun y m => ?_⟩
  rcases List.mem_cons.mp m with rfl | m
  · exact ⟨Evl.fresh_back n.e h, fun z => by rw [s] at z; cases z⟩
  · refine ⟨(n.fr y m).1, fun z => ?_⟩
    cases w : H y with
    | none => exact (n.fr y m).2 w
    | some o => rw [e _ _ w] at z; cases z
theorem NL.ne {H0 H : Hp} {l : List Addr} (n : NL H0 H l) (i j : Nat) {x y : Addr} (hx : l[i]? = some x) (hy : l[j]? = some y) (ne : i ≠ j) : x ≠ y := fun e => by
  subst e
  exact ne (nodup_at n.nd hx hy)
theorem NL.at {H0 H : Hp} {l : List Addr} (n : NL H0 H l) (i : Nat) {x : Addr} (hx : l[i]? = some x) : H0 x = none := (n.fr x (List.mem_of_getElem? hx)).1
structure Adr where
  F : Foot
  st : Addr
  m : Addr
  hp : Addr
  np : Addr
def Adr.own (A : Adr) (c : Addr) : Prop := ¬ Off A.F c ∨ c = A.m ∨ c = A.hp ∨ c = A.np
/-- all but A's own objects stays -/
def GrA (A : Adr) (H H' : Hp) : Prop := ∀ c o, H c = some o → ¬ A.own c → H' c = some o
theorem GrA.of {A : Adr} {H H' : Hp} (e : Ex H H') : GrA A H H' := fun c o h _ => e c o h
theorem GrA.trans {A : Adr} {H H1 H2 : Hp} (a : GrA A H H1) (b : GrA A H1 H2) : GrA A H H2 := fun c o h f => b c o (a c o h f) f
theorem GrA.gr {A : Adr} {H H' : Hp} (g : Gr A.F H H') : GrA A H H' := fun c o h n => g c o h (Classical.byContradiction fun z => n (Or.inl z))
theorem GrA.mo {A : Adr} {H H' : Hp} (g : ∀ c o, H c = some o → c ≠ A.m → c ≠ A.hp → H' c = some o) : GrA A H H' := fun c o h n => g c o h (fun e => n (Or.inr (Or.inl e))) fun e => n (Or.inr (Or.inr (Or.inl e)))
def Four (M : List Pr) : Prop := ∀ p ∈ M, p.1.length ≤ 4 ∧ p.2.length ≤ 4
structure Sd (P : Program) (w : World) (K : PySem.W.Frag) (Z : Addr → Prop) (H : Hp) (A : Adr) (M G : List Pr) (hts hs ns : List Int) (ts : List (Key × V)) : Prop where
  Y : YardAt P w K H A.F G hs ts
  T : TOk G ts
  L : LenOk G ts
  st : H A.st = some (.tup [.ref A.m, .ref A.hp, .ref A.np])
  mo : ModAt Z H A.m M
  hh : H A.hp = some (.lst (hts.map V.int))
  hl : hts.length = M.length
  hn : H A.np = some (.lst (ns.map V.int))
  I : Iso M G ns
  FM : Forms M
  O : HtOk M hts
  four : Four M
  off : Off A.F A.m ∧ Off A.F A.hp ∧ Off A.F A.np
  ne : A.m ≠ A.hp ∧ A.m ≠ A.np ∧ A.hp ≠ A.np
  own : ∀ c, A.own c → Z c
  al : ∀ c, Z c → H c ≠ none
section
variable {P : Program} {w : World} {K : PySem.W.Frag} {H H' : Hp} {F : Foot} {Z : Addr → Prop} {A B : Adr} {M G : List Pr} {hts hs ns : List Int} {ts : List (Key × V)}
/-- a yard stays where none of its objects is changed -/
theorem YardAt.stay (Y : YardAt P w K H F G hs ts) {S : Addr → Prop} (k : ∀ c o, H c = some o → ¬ S c → H' c = some o) (off : ∀ c, ¬ Off F c → ¬ S c) (tu : ∀ c ys, H c = some (.tup ys) → ¬ S c) (ic : ∀ c C dx fs, H c = some (.ins C dx fs) → ¬ S c) : YardAt P w K H' F G hs ts := by
  have t : ∀ c zs, H c = some (.tup zs) → H' c = some (.tup zs) := fun c zs z => k _ _ z (tu _ _ z)
  have o1 := off F.l fun h => h.1 rfl
  have o2 := off F.r fun h => h.2.1 rfl
  have o3 := off F.h fun h => h.2.2.1 rfl
  have o4 := off F.n fun h => h.2.2.2.1 rfl
  have o5 := off F.t fun h => h.2.2.2.2 rfl
  exact ⟨k _ _ Y.ins (ic _ _ _ _ Y.ins), let ⟨xs, h1, h2⟩ := Y.ls; ⟨xs, k _ _ h1 o1, h2.ex t⟩, let ⟨xs, h1, h2⟩ := Y.rs; ⟨xs, k _ _ h1 o2, h2.ex t⟩, ⟨k _ _ Y.hs.1 o3, Y.hs.2⟩,
    let ⟨kvs, h1, h2, h3⟩ := Y.ns; ⟨kvs, k _ _ h1 o4, fun x m => (h2 x m).ex t, h3⟩, k _ _ Y.ts o5, Y.ne, Y.ht, Y.G⟩
theorem YardAt.own_kind (Y : YardAt P w K H F G hs ts) {c : Addr} (h : ¬ Off F c) : (∀ ys, H c ≠ some (.tup ys)) ∧ ∀ C dx fs, H c ≠ some (.ins C dx fs) := by
  refine ⟨fun ys z => h (Y.tup z), fun C dx fs z => h ?_⟩
  obtain ⟨zs, hl, _⟩ := Y.ls
  obtain ⟨ys, hr, _⟩ := Y.rs
  obtain ⟨kvs, hn, _⟩ := Y.ns
  exact ⟨ne_of z hl (by intro z; cases z), ne_of z hr (by intro z; cases z), ne_of z Y.hs.1 (by intro z; cases z), ne_of z hn (by intro z; cases z), ne_of z Y.ts (by intro z; cases z)⟩
theorem Sd.kind (S : Sd P w K Z H A M G hts hs ns ts) {c : Addr} (h : A.own c) : (∀ ys, H c ≠ some (.tup ys)) ∧ ∀ C dx fs, H c ≠ some (.ins C dx fs) := by
  rcases h with h | rfl | rfl | rfl
  · exact S.Y.own_kind h
  · obtain ⟨xs, hm, _⟩ := S.mo
    exact ⟨fun ys z => (by rw [hm] at z; cases z), fun C dx fs z => (by rw [hm] at z; cases z)⟩
  · exact ⟨fun ys z => (by rw [S.hh] at z; cases z), fun C dx fs z => (by rw [S.hh] at z; cases z)⟩
  · exact ⟨fun ys z => (by rw [S.hn] at z; cases z), fun C dx fs z => (by rw [S.hn] at z; cases z)⟩
theorem Sd.tupA (S : Sd P w K Z H A M G hts hs ns ts) (g : GrA A H H') : ∀ c ys, H c = some (.tup ys) → H' c = some (.tup ys) := fun c ys z => g _ _ z fun o => (S.kind o).1 _ z
theorem Sd.ex (S : Sd P w K Z H A M G hts hs ns ts) (e : Ex H H') : Sd P w K Z H' A M G hts hs ns ts :=
  ⟨S.Y.ex e, S.T, S.L, e _ _ S.st, S.mo.up e, e _ _ S.hh, S.hl, e _ _ S.hn, S.I, S.FM, S.O, S.four, S.off, S.ne, S.own, fun c z n => S.al c z (by
    cases h : H c with
    | none => rfl
    | some o => rw [e _ _ h] at n; cases n)⟩
theorem GrA.al (g : GrA A H H') (k : ∀ c, A.own c → H' c ≠ none) (al : ∀ c, Z c → H c ≠ none) : ∀ c, Z c → H' c ≠ none := fun c z n => by
  by_cases o : A.own c
  · exact k c o n
  · cases h : H c with
    | none => exact al c z h
    | some x => rw [g _ _ h o] at n; cases n
theorem YardAt.own_al (Y : YardAt P w K H F G hs ts) {c : Addr} (h : ¬ Off F c) : H c ≠ none := fun z => h (Y.fresh z)
/-- the other side does not feel what is done on this one -/
theorem Sd.other {M2 G2 : List Pr} {hts2 hs2 ns2 : List Int} {ts2 : List (Key × V)} (S : Sd P w K Z H B M G hts hs ns ts) (SA : Sd P w K Z H A M2 G2 hts2 hs2 ns2 ts2) (g : GrA A H H') (al : ∀ c, Z c → H' c ≠ none) (dj : ∀ c, A.own c → ¬ B.own c) : Sd P w K Z H' B M G hts hs ns ts := by
  have dj' : ∀ c, B.own c → ¬ A.own c := fun c b a => dj c a b
  have tu := SA.tupA g
  obtain ⟨xs, hm, fs⟩ := S.mo
  exact ⟨S.Y.stay g (fun c h => dj' c (Or.inl h)) (fun c ys z o => (SA.kind o).1 _ z) fun c C dx f z o => (SA.kind o).2 _ _ _ z, S.T, S.L, tu _ _ S.st,
    ⟨xs, g _ _ hm (dj' _ (Or.inr (Or.inl rfl))), fs.keep (fun c o z n => g _ _ z fun a => n (SA.own c a)) tu⟩,
    g _ _ S.hh (dj' _ (Or.inr (Or.inr (Or.inl rfl)))), S.hl, g _ _ S.hn (dj' _ (Or.inr (Or.inr (Or.inr rfl)))), S.I, S.FM, S.O, S.four, S.off, S.ne, S.own, al⟩
/-- the model's list and the heights are changed -/
theorem Sd.yard_mo (S : Sd P w K Z H A M G hts hs ns ts) (k : ∀ c o, H c = some o → c ≠ A.m → c ≠ A.hp → H' c = some o) : YardAt P w K H' A.F G hs ts := by
  obtain ⟨xs, hm, fs⟩ := S.mo
  refine S.Y.stay (S := fun c => c = A.m ∨ c = A.hp) (fun c o h n => k _ _ h (fun e => n (Or.inl e)) fun e => n (Or.inr e)) (fun c h n => h ?_) (fun c ys z n => ?_) fun c C dx f z n => ?_
  · rcases n with rfl | rfl
    · exact S.off.1
    · exact S.off.2.1
  · rcases n with rfl | rfl
    · rw [hm] at z; cases z
    · rw [S.hh] at z; cases z
  · rcases n with rfl | rfl
    · rw [hm] at z; cases z
    · rw [S.hh] at z; cases z
/-- forms of the model stay where the yard alone is changed -/
theorem mod_gr {m : Addr} (Y : YardAt P w K H F G hs ts) (MA : ModAt Z H m M) (g : Gr F H H') (om : Off F m) (zoff : ∀ c, ¬ Off F c → Z c) : ModAt Z H' m M := by
  obtain ⟨xs, hm, fs⟩ := MA
  exact ⟨xs, g _ _ hm om, fs.keep (fun c o z h => g _ _ z (Classical.byContradiction fun n => h (zoff c n))) fun c ys z => g _ _ z (Y.tup z)⟩
theorem mod_more {m D : Addr} (MA : ModAt Z H m M) (nD : H D = none) : ModAt (fun c => Z c ∨ c = D) H m M := by
  obtain ⟨xs, hm, fl, fs⟩ := MA
  refine ⟨xs, hm, fl, fun i g h => ?_⟩
  obtain ⟨a, ha, c, d, h1, h2, h3, z1, z2⟩ := fs i g h
  exact ⟨a, ha, c, d, h1, h2, h3, fun z => z.elim z1 fun e => (by rw [e, nD] at h2; cases h2), fun z => z.elim z2 fun e => (by rw [e, nD] at h3; cases h3)⟩
theorem mod_less {m : Addr} {Z' : Addr → Prop} (MA : ModAt Z' H m M) (s : ∀ c, Z c → Z' c) : ModAt Z H m M := by
  obtain ⟨xs, hm, fl, fs⟩ := MA
  refine ⟨xs, hm, fl, fun i g h => ?_⟩
  obtain ⟨a, ha, c, d, h1, h2, h3, z1, z2⟩ := fs i g h
  exact ⟨a, ha, c, d, h1, h2, h3, fun z => z1 (s _ z), fun z => z2 (s _ z)⟩
theorem sub_len {M M' : List Pr} (s : ∀ (i : Nat) (g : Pr), M[i]? = some g → M'[i]? = some g) : M.length ≤ M'.length := by
  rcases Nat.lt_or_ge M'.length M.length with h | h
  · have := (List.getElem?_eq_some_iff.mp (s _ _ (List.getElem?_eq_getElem h))).1
    omega
  · exact h
theorem put_sub {G G' : List Pr} {p : Pr} {i : Int} (h : Put G p i G') : ∀ (i : Nat) (g : Pr), G[i]? = some g → G'[i]? = some g := by
  rcases h with ⟨_, _, _, rfl⟩ | ⟨_, _, rfl⟩
  · exact fun _ _ h => h
  · exact fun i g h => by rw [List.getElem?_append_left (List.getElem?_eq_some_iff.mp h).1]; exact h
theorem Asc.nodup {n : Nat} {l : List Int} (a : Asc n l) : l.Nodup := a.1.imp fun h => Int.ne_of_lt h
theorem asc_le {l as : List Int} (a : as.Pairwise (· < ·)) (s : ∀ k, k ∈ as ↔ k ∈ l) : as.length ≤ l.length := nodup_le as l (a.imp fun h => Int.ne_of_lt h) fun x m => (s x).mp m
theorem Four.put {M' : List Pr} {p : Pr} {i : Int} (f : Four M) (h : Put M p i M') (a : p.1.length ≤ 4) (b : p.2.length ≤ 4) : Four M' := by
  rcases h with ⟨_, _, _, rfl⟩ | ⟨_, _, rfl⟩
  · exact f
  · intro q m
    rcases List.mem_append.mp m with m | m
    · exact f q m
    · rw [List.mem_singleton.mp m]; exact ⟨a, b⟩
/-- the items of a list as the yard calls them -/
theorem nat_at {k : Int} (h0 : 0 ≤ k) (h : k < (M.length : Int)) (l : M.length = ns.length) : atI (ns.map V.int) k = some (V.int (nat_ ns k)) := by
  obtain ⟨z, hz, e⟩ := at_int (ns := ns) h0 (by omega)
  have := nat_get h0 h l
  rw [this] at hz
  cases hz
  exact e
theorem nat_get_nat {j : Nat} (h : j < ns.length) : ns[j]? = some (nat_ ns j) := by
  have := nat_get (ns := ns) (j := (j : Int)) (m := ns.length) (by omega) (by omega) rfl
  rwa [Int.toNat_natCast] at this
theorem told_of {l as bs : List Int} (a : as.Pairwise (· < ·) ∧ ∀ k, k ∈ as ↔ k ∈ l) (b : bs.Pairwise (· < ·) ∧ ∀ k, k ∈ bs ↔ k ∈ l.map (nat_ ns)) : Told ns as bs :=
  ⟨b.1, fun x => (b.2 x).trans (List.mem_map.trans ⟨fun ⟨j, m, e⟩ => ⟨j, (a.2 j).mpr m, e⟩, fun ⟨j, m, e⟩ => ⟨j, (a.2 j).mp m, e⟩⟩)⟩
/-- sorted, the yard's numbers of a model's list are what is told -/
theorem told_sorted {l as ns' : List Int} (t : Told ns l as) (inj : ∀ x ∈ l, ∀ y ∈ l, nat_ ns x = nat_ ns y → x = y) (nd : l.Nodup) (pm : ns'.Perm (l.map (nat_ ns))) (le : ns'.Pairwise (· ≤ ·)) : ns' = as := by
  have nd2 : (l.map (nat_ ns)).Nodup := by
    show (l.map (nat_ ns)).Pairwise (· ≠ ·)
    rw [List.pairwise_map]
    exact (show l.Pairwise (· ≠ ·) from nd).imp_of_mem fun {x y} mx my h e => h (inj x mx y my e)
  exact asc_ext (lt_of_le_nodup ns' le (pm.nodup_iff.mpr nd2)) t.1 fun x => pm.mem_iff.trans (List.mem_map.trans (t.2 x).symm)
end
end Mine
namespace Mine
open PySem PySem.Spec PyProof.Rows L2
open PySem.AutoSeq1
/-! enumerate(a tuple) -/
set_option maxHeartbeats 1600000 in
theorem meets_enum1 {v : Value} {o : Obj} {G : Heap → Prop} (B : Begins v o G) :
    Meets (Builtin.«enumerate.__new__» ⟨[.type "enumerate", v], []⟩) (fun _ R s => G s.heap ∧
      R (.ok (.ret (.ref (s.heap.push o).objs.size))) { s with heap := (s.heap.push o).push { cls := .type "enumerate", data := .fields #[.none, .bool false, .ref s.heap.objs.size, rawInt 0, .none, .none] } }) :=
  .of_wp fun prog w A R s h => by
    obtain ⟨hp, g, d, tk, os⟩ := s
    obtain ⟨h1, h⟩ := h
    have sub := sub_enumerate
    have begins : ∀ {A' : Around} {E : Value → Shared → Prop} {Q : Value → Shared → Prop}, Q (.ref hp.objs.size) ⟨hp.push o, g, d, tk, os⟩ → wpAny (model prog w) A' (pyIter v) Q E ⟨hp, g, d, tk, os⟩ :=
      fun q => B.iter prog w _ _ ⟨hp, g, d, tk, os⟩ _ h1 q
    wp_walk using begins
    refine wpAny_stack_any fun st => wpAny_pure ?_
    split
    · rename_i c _ _ _ _ _
      cases (c == Value.type "enumerate")
      · wp_walk using begins
        exact ⟨_, rfl, h⟩
      · wp_walk using begins
        exact ⟨_, rfl, h⟩
    · wp_walk using begins
      exact ⟨_, rfl, h⟩
section
variable {prog : Program} {w : World} {A : Around} {E : Value → Shared → Prop} {s : Shared}
theorem enum1_begins {v : Value} {o : Obj} {G : Heap → Prop} {Q : Value → Shared → Prop} (B : Begins v o G) (h1 : G s.heap)
    (q : ∀ h', IsEnum h' (s.heap.objs.size + 1) s.heap.objs.size 0 .none → h'.get? s.heap.objs.size = some o → (∀ b u, s.heap.get? b = some u → h'.get? b = some u) → Q (.ref (s.heap.objs.size + 1)) { s with heap := h' }) :
    wpAny (model prog w) A (call (.type "enumerate") [v]) Q E s := by
  refine callType_new F.called_enumerate (by decide) (F.typeCall_enumerate_1 _) (F.newCall_enumerate_1 _) (fun obj => F.args_object_init_2 obj _) F.entry_enumerate_new (meets_enum1 B) ⟨h1, ?_⟩
  have z : (s.heap.push o).objs.size = s.heap.objs.size + 1 := Heap.size_push ..
  show _ ∧ _
  rw [z]
  have he : IsEnum ((s.heap.push o).push { cls := .type "enumerate", data := .fields #[.none, .bool false, .ref s.heap.objs.size, rawInt 0, .none, .none] }) (s.heap.objs.size + 1) s.heap.objs.size 0 .none := by
    have t := Heap.get?_push_size (s.heap.push o) (o := { cls := .type "enumerate", data := .fields #[.none, .bool false, .ref s.heap.objs.size, rawInt 0, .none, .none] }) rfl
    rw [z] at t; exact t
  exact ⟨⟨_, he, rfl⟩, q _ he (Heap.get?_push_of_some _ (Heap.get?_push_size _ B.free)) fun b u x => Heap.get?_push_of_some _ (Heap.get?_push_of_some _ x)⟩
end
/-- the tuple at a, each item in a new pair with its place -/
def IteT (K : PySem.W.Frag) (a : Addr) : It :=
  ⟨fun i H => ∃ (xs : List V) (x : V), SqT K H a xs ∧ xs[i]? = some x, fun i H v H' => ∃ T x, v = .ref T ∧ H T = none ∧ H' = upd H T (.tup [.int (i : Nat), x]) ∧ ∀ xs, SqT K H a xs → xs[i]? = some x, fun i H => ∃ xs : List V, SqT K H a xs ∧ xs.length ≤ i⟩
theorem turn_enumT {P : Program} {w : World} {K : PySem.W.Frag} {elts : List Expr} {kk : Nat} {tpos : Pos} (a e it : Addr) :
    Turn P w K (.Tuple elts kk tpos) (IteT K a) [e, it] e (fun i h => (∃ old, IsEnum h e it ((i : Nat) : Int) old) ∧ h.IsTupleIter it a i ∧ e ≠ it ∧ a ≠ it ∧ e ≠ a) where
  mem := by simp
  obj := fun i h st b hb => by
    obtain ⟨⟨old, he⟩, ⟨o, ho, hc, hd⟩, _⟩ := st
    rcases (show b = e ∨ b = it by simpa using hb) with z | z
    · rw [z]; exact ⟨_, he, fun v q => nomatch q⟩
    · rw [z]; exact ⟨o, ho, fun v q => by rw [hd] at q; cases q⟩
  keep := fun i h h' st k => let ⟨⟨old, he⟩, hi, hne⟩ := st; ⟨⟨old, k e (by simp) _ he⟩, hi.at fun o q => k it (by simp) o q, hne⟩
  item := by
    intro X hP hw hK hc i pins s σ H E I hf st hg
    subst hP hw hK
    obtain ⟨⟨old, he⟩, hit, hne, hat, hea⟩ := st
    obtain ⟨xs, x, hq, hx⟩ := hg
    obtain ⟨its, rv, p, hz⟩ := I.tuple hq
    have len := rv.length
    have hi : i < its.length := by have := (List.getElem?_eq_some_iff.mp hx).1; omega
    have hel : e < s.heap.objs.size := Heap.lt_size he
    have hil : it < s.heap.objs.size := by obtain ⟨_, q, _⟩ := hit; exact Heap.lt_size q
    have D := Draws.tuple (prog := X.prog) (w := X.w) (A := X.A.in1) (I.ok.hd hc) it a hat its.toArray
    refine wpAny_pyNext_enum_itemC D he ⟨hit, p⟩ (by simpa using hi) hne (by simp [hne, hea]) fun y h' tk hy ho st' hT hsz hk => ?_
    refine ⟨_, rfl, wpAny_letOwnedTupleGo_enum (s := { s with heap := h', toks := tk + 1 }) ho fun h'' he' sb => ?_⟩
    have hT2 : h''.get? s.heap.objs.size = some { cls := .type "tuple", data := .seq #[.int i tk, y] } := (sb.2 _ (Nat.ne_of_gt hel)).trans hT
    obtain ⟨u, hu, ru⟩ := rv.get hx
    have ey : y = u := by
      have z : its[i]? = some y := by simpa using hy
      rw [hu] at z
      exact (Option.some.inj z).symm
    subst ey
    have new : ObjOk X.prog X.w (upd H s.heap.objs.size (.tup [.int (i : Nat), x])) h'' s.heap.objs.size (.tup [.int (i : Nat), x]) :=
      ⟨by show 2 ≤ sizeLine; decide, [.int i tk, y], .cons ⟨_, rfl⟩ (.cons ru .nil), ⟨_, hT2, rfl, _, rfl⟩⟩
    have I1 : Inv X pins σ (upd H s.heap.objs.size (.tup [.int (i : Nat), x])) { s with heap := h'', toks := tk + 1 } :=
      I.turnedNew (ch := [e, it]) (fun b ob hb q => (sb.2 b (fun z => hb (by simp [z]))).trans (hk b ob (fun z => hb (by simp [z])) (fun z => hb (by simp [z])) q)) hf (Nat.le_refl _) new
    refine ⟨.ref s.heap.objs.size, _, I1, rfl, ⟨_, x, rfl, I.hok.fresh (Nat.le_refl _), rfl, fun ys hy => by rw [I.tuple_inj hy hq]; exact hx⟩, ⟨⟨y, ?_⟩, st'.1.at fun o q => (sb.2 it (Ne.symm hne)).trans q, hne, hat, hea⟩, fun b hb => ?_⟩
    · have e1 : ((i + 1 : Nat) : Int) = (i : Int) + 1 := by omega
      rw [e1]; exact he'
    · have hb' : b < s.heap.objs.size := by
        rcases (show b = e ∨ b = it by simpa using hb) with z | z
        · rw [z]; exact hel
        · rw [z]; exact hil
      rw [upd_ne (Nat.ne_of_lt hb')]
      exact (hf b hb).1
  done := by
    intro X hP hw hK hc i pins s σ H E I hf st hg
    subst hP hw hK
    obtain ⟨⟨old, he⟩, hit, hne, hat, hea⟩ := st
    obtain ⟨xs, hq, hx⟩ := hg
    obtain ⟨its, rv, p, hz⟩ := I.tuple hq
    obtain ⟨f0, f1, f2, f3, f4, f5⟩ := hf it (by simp)
    have len := rv.length
    have D : Draws X.prog X.w X.A.in1 it [it, a] i (fun _ _ => True) (fun j h => j = i ∧ h.IsTupleIter it a i ∧ h.IsTuple a its.toArray) :=
      { live := fun _ _ st => let ⟨o, ho, _⟩ := st.2.1; ⟨o, ho⟩
        frame := fun _ _ _ st hk => ⟨st.1, st.2.1.at fun o e => hk it (by simp) o e, st.2.2.at fun o e => hk a (by simp) o e⟩
        item := fun j s Q E hj st _ => absurd st.1 (Nat.ne_of_lt hj)
        done := fun s Q E st hE => wpAny_nextOf_tuple_end (I.ok.hd hc) st.2.1 st.2.2 (by simp; omega) hE }
    exact wpAny_pyNext_enum_endD D he ⟨rfl, hit, p⟩ fun h' eb => ⟨rfl, I.turned (t' := s.toks) (fun b o hb q => eb b o hb q) f0 f1 f3 f4 f5⟩
  self := fun A i s Q E st h => let ⟨⟨_, he⟩, _⟩ := st; wpAny_pyIter_enum he h
def iEnumT (K : PySem.W.Frag) (ta : TA) : TI := fun σ H R => ta σ H fun vs H1 => ∃ a xs, vs = [.ref a] ∧ SqT K H1 a xs ∧ R (IteT K a) H1
theorem pi_enumT {X : Cx} {e : Expr} {ta : TA} {p pos tpos : Pos} {elts : List Expr} {kk : Nat} (hg : Gl X "enumerate") (hm : X.mg "enumerate" = none) (ha : PA X [e] ta) (hs : starEach [e] X.env = [(false, eval e X.env)] := by rfl) :
    PI X (.Tuple elts kk tpos) (.Call (.Name "enumerate" p) [e] [] pos) (iEnumT X.K ta) := by
  constructor
  intro pins s σ H R I h
  refine Call_ (ld_blt I hg hm boot_enumerate (PyProof.Rows.callWith_type1 (thn (ha.run pos pins s σ H _ I h) ?_) hs rfl))
  rintro us s1 ⟨vs, H1, I1, r1, a, xs, rfl, hq, q⟩
  cases r1 with
  | cons r rr =>
    cases rr
    cases r
    obtain ⟨its, rv, tu, hz⟩ := I1.tuple hq
    have al : a < s1.heap.objs.size := by obtain ⟨o, e, _⟩ := tu; exact Heap.lt_size e
    refine enum1_begins (begins_tuple a its.toArray) tu fun h' he hit hk => wpAny_pyIter_enum he ?_
    have I2 : Inv X pins σ H1 { s1 with heap := h' } := I1.kept (t' := s1.toks) hk
    refine ⟨s1.heap.objs.size + 1, [s1.heap.objs.size + 1, s1.heap.objs.size], _, _, H1, rfl, I2, turn_enumT a (s1.heap.objs.size + 1) s1.heap.objs.size, ⟨⟨.none, he⟩, ⟨_, hit, rfl, rfl⟩, Nat.succ_ne_self _, Nat.ne_of_lt al, (Nat.ne_of_lt (Nat.lt_succ_of_lt al)).symm⟩, fun b hb => ?_, q⟩
    have hle : s1.heap.objs.size ≤ b := by
      rcases (show b = s1.heap.objs.size + 1 ∨ b = s1.heap.objs.size by simpa using hb) with z | z
      · rw [z]; exact Nat.le_add_right _ _
      · rw [z]; exact Nat.le_refl _
    exact I1.fpOk hle (I1.hok.fresh hle)
theorem for_enumT {g : TG} {tb : TS} {D : Ends} {σ : L2.St} {H : Hp} {K : PySem.W.Frag} {a : Addr} {xs : List V} (Pv : Nat → L2.St → Hp → Prop) (h0 : Pv 0 σ H) (hl : ∀ i σ' H', i ≤ xs.length → Pv i σ' H' → SqT K H' a xs)
    (hs : ∀ i x σ' H' T, xs[i]? = some x → Pv i σ' H' → H' T = none → g (.ref T) σ' (upd H' T (.tup [.int (i : Nat), x])) fun σ2 H2 => tb { D with nx := Pv (i + 1), ct := Pv (i + 1), bk := D.nx } σ2 H2) (hd : ∀ σ' H', Pv xs.length σ' H' → D.nx σ' H') : forK g tb D σ (IteT K a) H := by
  refine ⟨fun i m σ H => i ≤ xs.length ∧ m = xs.length - i ∧ Pv i σ H, ⟨xs.length, Nat.zero_le _, by omega, h0⟩, ?_⟩
  rintro i m σ H ⟨hi, rfl, p⟩
  have hq := hl i σ H hi p
  rcases Nat.lt_or_ge i xs.length with h | h
  · refine Or.inr ⟨⟨xs, xs[i], hq, List.getElem?_eq_getElem h⟩, Pv (i + 1), fun σ' H' p' => ⟨xs.length - (i + 1), by omega, by omega, rfl, p'⟩, ?_⟩
    rintro v H' ⟨T, x, rfl, hT, rfl, hx⟩
    exact hs i x σ H T (hx xs hq) p hT
  · have e : i = xs.length := by omega
    subst e
    exact Or.inl ⟨⟨xs, hq, Nat.le_refl _⟩, hd σ H p⟩
end Mine
namespace Mine
open PySem PySem.Spec PyProof.Rows L2
open Evl (Ex)
structure FHeaps (K : PySem.W.Frag) : Prop where
  cl : Cls K (He.ga K "Heaps")
  na : NoAttr K (He.ga K "Heaps") "_sizes"
def hfs (t : Addr) : List (Str × V) := putF "_sizes" (.ref t) []
theorem hfs_get (t : Addr) : (hfs t).lookup ("_sizes" : Str) = some (.ref t) := by
  unfold hfs
  rw [lookup_putF, if_pos rfl]
theorem hfs_no (t : Addr) {m : Str} (h : ¬ m = "_sizes") : (hfs t).lookup m = none := by
  unfold hfs
  rw [lookup_putF, if_neg h]
  rfl
/-- a board of heaps -/
def HpAt (K : PySem.W.Frag) (H : Hp) (b : Addr) (ns : List Int) : Prop := ∃ dx t, H b = some (.ins (He.ga K "Heaps") dx (hfs t)) ∧ H t = some (.tup (ns.map V.int))
theorem HpAt.ex {K : PySem.W.Frag} {H H' : Hp} {b : Addr} {ns : List Int} (h : HpAt K H b ns) (e : Ex H H') : HpAt K H' b ns := let ⟨dx, t, h1, h2⟩ := h; ⟨dx, t, e _ _ h1, e _ _ h2⟩
def OkS (ns : List Int) : Prop := ns.length ≤ 8 ∧ ∀ z ∈ ns, 0 ≤ z ∧ z ≤ 30
end Mine
namespace Mine
open PySem PySem.Spec PyProof.Rows L2
open Evl (Ex)
/-- the sizes behind the moves, in order -/
def mvAt (ns : List Int) (i : Nat) : List (List Int) := (List.range (ns.getD i 0).toNat).map fun (j : Nat) => ns.take i ++ [(ns.getD i 0) - 1 - (j : Int)] ++ ns.drop (i + 1)
def mvs (ns : List Int) : List (List Int) := (List.range ns.length).flatMap (mvAt ns)
/-- boards of heaps of these sizes -/
def BsAt (K : PySem.W.Frag) (H : Hp) (xs : List V) (ss : List (List Int)) : Prop := xs.length = ss.length ∧ ∀ (i : Nat) (s : List Int), ss[i]? = some s → ∃ b, xs[i]? = some (.ref b) ∧ HpAt K H b s
theorem BsAt.ex {K : PySem.W.Frag} {H H' : Hp} {xs : List V} {ss : List (List Int)} (h : BsAt K H xs ss) (e : Ex H H') : BsAt K H' xs ss := ⟨h.1, fun i s q => let ⟨b, h1, h2⟩ := h.2 i s q; ⟨b, h1, h2.ex e⟩⟩
theorem BsAt.keep {K : PySem.W.Frag} {H H' : Hp} {xs : List V} {ss : List (List Int)} (h : BsAt K H xs ss) (k : ∀ c o, H c = some o → (∀ ys, o ≠ .lst ys) → H' c = some o) : BsAt K H' xs ss :=
  ⟨h.1, fun i s q => let ⟨b, h1, dx, t, h2, h3⟩ := h.2 i s q; ⟨b, h1, dx, t, k _ _ h2 (fun ys z => by cases z), k _ _ h3 (fun ys z => by cases z)⟩⟩
theorem BsAt.snoc {K : PySem.W.Frag} {H : Hp} {xs : List V} {ss : List (List Int)} {b : Addr} {s : List Int} (h : BsAt K H xs ss) (hb : HpAt K H b s) : BsAt K H (xs ++ [.ref b]) (ss ++ [s]) := by
  refine ⟨by rw [List.length_append, List.length_append, h.1]; rfl, fun i s' q => ?_⟩
  rcases Nat.lt_or_ge i ss.length with l | l
  · rw [List.getElem?_append_left l] at q
    obtain ⟨b', h1, h2⟩ := h.2 i s' q
    exact ⟨b', by rw [List.getElem?_append_left (by rw [h.1]; exact l)]; exact h1, h2⟩
  · have l2 := (List.getElem?_eq_some_iff.mp q).1
    rw [List.length_append, List.length_singleton] at l2
    have e : i = ss.length := by omega
    subst e
    rw [List.getElem?_append_right (Nat.le_refl _), Nat.sub_self] at q
    have e2 : s = s' := by injection q
    subst e2
    exact ⟨b, by rw [← h.1, List.getElem?_append_right (Nat.le_refl _), Nat.sub_self]; rfl, hb⟩
theorem okS_mv {ns : List Int} (ok : OkS ns) {i : Nat} (hi : i < ns.length) {j : Nat} (hj : j < (ns.getD i 0).toNat) : OkS (ns.take i ++ [(ns.getD i 0) - 1 - (j : Int)] ++ ns.drop (i + 1)) := by
  have hz : ns.getD i 0 ∈ ns := by
    rw [List.getD_eq_getElem?_getD, List.getElem?_eq_getElem hi]
    exact List.getElem_mem hi
  have bz := ok.2 _ hz
  refine ⟨?_, fun z m => ?_⟩
  · have := ok.1
    rw [List.length_append, List.length_append, List.length_take, List.length_drop, List.length_singleton]
    omega
  · rcases List.mem_append.mp m with m | m
    · rcases List.mem_append.mp m with m | m
      · exact ok.2 z (List.mem_of_mem_take m)
      · rw [List.mem_singleton.mp m]; omega
    · exact ok.2 z (List.mem_of_mem_drop m)
end Mine
namespace Mine
open PySem PySem.Spec PyProof.Rows L2
section
variable {σ : L2.St} {H : Hp} {K : PySem.W.Frag}
theorem k_star {te : TE} {t : TA} {Q : List V → Hp → Prop} (q : te σ H fun y H1 => ∃ a xs, y = V.ref a ∧ (SqT K H1 a xs ∨ SqL K H1 a xs) ∧ t σ H1 fun vs H2 => Q (xs ++ vs) H2) : StX.tStar K te t σ H Q := q
theorem k_enumT {ta : TA} {R : It → Hp → Prop} (q : ta σ H fun vs H1 => ∃ a xs, vs = [.ref a] ∧ SqT K H1 a xs ∧ R (IteT K a) H1) : iEnumT K ta σ H R := q
end
end Mine
namespace Mine
open PySem PySem.Spec PyProof.Rows L2
open Evl (Ex)
theorem k_slA {K : PySem.W.Frag} {H : Hp} {Q : VK} {a : Addr} {xs : List V} {lo hi : Option Int} (h : SqT K H a xs) (q : ∀ p H', Ex H H' → SqT K H' p (cutV xs lo hi) → Q (.ref p) H') : rSlA K (.ref a) lo hi H Q := by
  refine ⟨a, xs, rfl, h, fun w => q a H (Evl.Ex.refl H) ?_, fun _ p n => q p _ (Evl.Ex.new n) (k_st upd_same)⟩
  have e : cutV xs lo hi = xs := by
    unfold cutV
    rw [w.1, w.2, List.drop_zero, Nat.sub_zero, List.take_of_length_le (Nat.le_refl _)]
  rw [e]; exact h
theorem cut_to {ns : List Int} {i : Nat} (h : i ≤ ns.length) : cutV (ns.map V.int) none (some (i : Int)) = (ns.take i).map V.int := by
  unfold cutV
  rw [HT.sIx_none, HT.sIx_nat, List.length_map, Nat.min_eq_left h, List.drop_zero, Nat.sub_zero, List.map_take]
theorem cut_on {ns : List Int} {i : Nat} (h : i ≤ ns.length) : cutV (ns.map V.int) (some (i : Int)) none = (ns.drop i).map V.int := by
  unfold cutV
  rw [HT.sIx_none, HT.sIx_nat, List.length_map, Nat.min_eq_left h, List.take_of_length_le (by rw [List.length_drop, List.length_map]; exact Nat.le_refl _), List.map_drop]
end Mine
namespace Mine
open PySem PySem.Spec PyProof.Rows L2
open Evl (Ex)
theorem k_slH {K : PySem.W.Frag} {H : Hp} {Q : VK} {a : Addr} {xs : List V} {lo hi : Option Int} (h : H a = some (.tup xs)) (q : ∀ p H', Ex H H' → H' p = some (.tup (cutV xs lo hi)) → Q (.ref p) H') : rSlA K (.ref a) lo hi H Q := by
  refine ⟨a, xs, rfl, k_st h, fun w => q a H (Evl.Ex.refl H) ?_, fun _ p n => q p _ (Evl.Ex.new n) upd_same⟩
  have e : cutV xs lo hi = xs := by
    unfold cutV
    rw [w.1, w.2, List.drop_zero, Nat.sub_zero, List.take_of_length_le (Nat.le_refl _)]
  rw [e]; exact h
theorem k_catH {K : PySem.W.Frag} {H : Hp} {Q : VK} {a b : Addr} {xs ys : List V} (h1 : H a = some (.tup xs)) (h2 : H b = some (.tup ys)) (l : xs.length + ys.length ≤ sizeLine) (q : ∀ p H', Ex H H' → H' p = some (.tup (xs ++ ys)) → Q (.ref p) H') : rCatA K (.ref a) (.ref b) H Q :=
  ⟨a, b, xs, ys, rfl, rfl, k_st h1, k_st h2, l, fun e => q b H (Evl.Ex.refl H) (by rw [e]; exact h2), fun _ e => q a H (Evl.Ex.refl H) (by rw [e, List.append_nil]; exact h1), fun _ _ p n => q p _ (Evl.Ex.new n) upd_same⟩
/-- the pairs that are due -/
def DuP (H : Hp) (d : Addr) (s : List Int) : Prop := ∃ u, H d = some (.tup [.str "heaps", .ref u]) ∧ H u = some (.tup (s.map V.int))
theorem DuP.ex {H H' : Hp} {d : Addr} {s : List Int} (h : DuP H d s) (e : Ex H H') : DuP H' d s := let ⟨u, h1, h2⟩ := h; ⟨u, e _ _ h1, e _ _ h2⟩
def DsAt (H : Hp) (xs : List V) (ss : List (List Int)) : Prop := xs.length = ss.length ∧ ∀ (i : Nat) (s : List Int), ss[i]? = some s → ∃ b, xs[i]? = some (.ref b) ∧ DuP H b s
theorem DsAt.ex {H H' : Hp} {xs : List V} {ss : List (List Int)} (h : DsAt H xs ss) (e : Ex H H') : DsAt H' xs ss := ⟨h.1, fun i s q => let ⟨b, h1, h2⟩ := h.2 i s q; ⟨b, h1, h2.ex e⟩⟩
theorem DsAt.keep {H H' : Hp} {xs : List V} {ss : List (List Int)} (h : DsAt H xs ss) (k : ∀ c o, H c = some o → (∀ ys, o ≠ .lst ys) → H' c = some o) : DsAt H' xs ss :=
  ⟨h.1, fun i s q => let ⟨b, h1, u, h2, h3⟩ := h.2 i s q; ⟨b, h1, u, k _ _ h2 (fun ys z => by cases z), k _ _ h3 (fun ys z => by cases z)⟩⟩
theorem DsAt.snoc {H : Hp} {xs : List V} {ss : List (List Int)} {b : Addr} {s : List Int} (h : DsAt H xs ss) (hb : DuP H b s) : DsAt H (xs ++ [.ref b]) (ss ++ [s]) := by
  refine ⟨by rw [List.length_append, List.length_append, h.1]; rfl, fun i s' q => ?_⟩
  rcases Nat.lt_or_ge i ss.length with l | l
  · rw [List.getElem?_append_left l] at q
    obtain ⟨b', h1, h2⟩ := h.2 i s' q
    exact ⟨b', by rw [List.getElem?_append_left (by rw [h.1]; exact l)]; exact h1, h2⟩
  · have l2 := (List.getElem?_eq_some_iff.mp q).1
    rw [List.length_append, List.length_singleton] at l2
    have e : i = ss.length := by omega
    subst e
    rw [List.getElem?_append_right (Nat.le_refl _), Nat.sub_self] at q
    have e2 : s = s' := by injection q
    subst e2
    exact ⟨b, by rw [← h.1, List.getElem?_append_right (Nat.le_refl _), Nat.sub_self]; rfl, hb⟩
end Mine
namespace Mine
open PySem PySem.Spec PyProof.Rows L2
open Evl (Ex)
/-- a new object, by the name of the heap that holds it -/
theorem upd_ex {H : Hp} {p : Addr} {o : HO} (np : H p = none) : ∃ H', upd H p o = H' ∧ Ex H H' ∧ H' p = some o := ⟨_, rfl, Evl.Ex.new np, upd_same⟩
theorem nx {H H' : Hp} {p : Addr} {o : HO} (np : H p = none) (h : upd H p o = H') : Ex H H' := h ▸ Evl.Ex.new np
theorem nS {H H' : Hp} {p : Addr} {o : HO} (h : upd H p o = H') : H' p = some o := h ▸ upd_same
section
variable {H : Hp} {K : PySem.W.Frag} {Q : VK}
theorem n_sl {a : Addr} {xs : List V} {lo hi : Option Int} (h : SqL K H a xs) (q : ∀ p H', H p = none → Ex H H' → H' p = some (.lst (cutV xs lo hi)) → Q (.ref p) H') : rSlL K (.ref a) lo hi H Q :=
  k_slL h fun p np => q p _ np (Evl.Ex.new np) upd_same
theorem n_cat {a b : Addr} {xs ys : List V} (h1 : H a = some (.lst xs)) (h2 : H b = some (.lst ys)) (l : xs.length + ys.length ≤ sizeLine) (q : ∀ p H', H p = none → Ex H H' → H' p = some (.lst (xs ++ ys)) → Q (.ref p) H') : rCat (.ref a) (.ref b) H Q :=
  k_rCat h1 h2 l fun p np => q p _ np (Evl.Ex.new np) upd_same
theorem n_rep {a : Addr} {k : Int} {xs : List V} (h : H a = some (.lst xs)) (b1 : -(2 ^ 63) ≤ k) (b2 : k < 2 ^ 63) (l : xs.length * k.toNat ≤ sizeLine) (q : ∀ p H', H p = none → Ex H H' → H' p = some (.lst (List.replicate k.toNat xs).flatten) → Q (.ref p) H') : rRep (.ref a) (.int k) H Q :=
  ⟨a, k, xs, rfl, rfl, h, b1, b2, l, fun p np => q p _ np (Evl.Ex.new np) upd_same⟩
theorem n_tupL {a : Addr} {xs : List V} (h : SqL K H a xs) (q : ∀ p H', H p = none → Ex H H' → H' p = some (.tup xs) → Q (.ref p) H') : rTupL K [.ref a] H Q :=
  k_rTupL h fun p np => q p _ np (Evl.Ex.new np) upd_same
theorem n_listL {a : Addr} {xs : List V} (h : SqL K H a xs) (q : ∀ p H', H p = none → Ex H H' → H' p = some (.lst xs) → Q (.ref p) H') : rListQ K [.ref a] H Q :=
  k_rListL h fun p np => q p _ np (Evl.Ex.new np) upd_same
theorem n_listT {a : Addr} {xs : List V} (h : SqT K H a xs) (q : ∀ p H', H p = none → Ex H H' → H' p = some (.lst xs) → Q (.ref p) H') : rListQ K [.ref a] H Q :=
  k_rListT h fun p np => q p _ np (Evl.Ex.new np) upd_same
theorem fits {n : Nat} (h : n ≤ 3000) : n ≤ sizeLine := Nat.le_trans h (by decide)
theorem fits' {n : Nat} (h : n ≤ 3000) : n < sizeLine := Nat.lt_of_le_of_lt h (by decide)
end
theorem cut_cut {xs : List V} {i : Nat} (h : i ≤ xs.length) : cutV xs none (some (i : Int)) = xs.take i := by
  unfold cutV
  rw [HT.sIx_none, HT.sIx_nat, Nat.min_eq_left h, List.drop_zero, Nat.sub_zero]
theorem cut_all {xs : List V} {i : Nat} (h : xs.length ≤ i) : cutV xs none (some (i : Int)) = xs := by
  unfold cutV
  rw [HT.sIx_none, HT.sIx_nat, Nat.min_eq_right h, List.drop_zero, Nat.sub_zero, List.take_of_length_le (Nat.le_refl _)]
theorem cut_min {xs : List V} {i : Nat} : cutV xs none (some (i : Int)) = xs.take i := by
  rcases Nat.le_total i xs.length with h | h
  · exact cut_cut h
  · rw [cut_all h, List.take_of_length_le h]
theorem cut_off {xs : List V} {i : Nat} (h : i ≤ xs.length) : cutV xs (some (i : Int)) none = xs.drop i := by
  unfold cutV
  rw [HT.sIx_none, HT.sIx_nat, Nat.min_eq_left h, List.take_of_length_le (by rw [List.length_drop]; exact Nat.le_refl _)]
end Mine
namespace Mine
open PySem PySem.Spec PyProof.Rows L2
open Evl (Ex)
/-- one turn makes an item with a property -/
def turnQ (g : TG) (tt : TT) (te : TE) (vs : List Nat) (σ : L2.St) (x : V) (P : V → Hp → Prop) (H1 : Hp) : Prop := ∀ H', Ex H1 H' → ∀ R : Option V → Hp → Prop, (∀ y H'', Ex H' H'' → P y H'' → R (some y) H'') →
  g x (wipe σ vs) H' fun σ2 H2 => wipe σ2 vs = wipe σ vs ∧ tt σ2 H2 fun b H3 => if b = true then te σ2 H3 fun y H4 => R (some y) H4 else R none H3
/-- what holds of an item while nothing but lists changes -/
def Lasts (P : V → V → Hp → Prop) : Prop := ∀ (x y : V) (H H' : Hp), P x y H → (∀ c o, H c = some o → (∀ ys, o ≠ .lst ys) → H' c = some o) → P x y H'
section
variable {g : TG} {tt : TT} {te : TE} {vs : List Nat} {σ : L2.St} {Q : VK} {H1 : Hp} {K : PySem.W.Frag}
theorem turnQ_in {x : V} {P : V → Hp → Prop} {D : Addr} {acc : List V} {H : Hp} {Nx : Hp → Prop} (t : turnQ g tt te vs σ x P H1) (e : Ex H1 H) (hD : H1 D = none) (a : H D = some (.lst acc)) (len : acc.length < sizeLine)
    (nx : ∀ y H2 H', Ex H H2 → P y H2 → Ex H1 H' → H' D = some (.lst (acc ++ [y])) → (∀ c o, H2 c = some o → (∀ ys, o ≠ .lst ys) → H' c = some o) → Nx H') :
    g x (wipe σ vs) H fun σ2 H2 => wipe σ2 vs = wipe σ vs ∧ tt σ2 H2 fun b H3 => if b = true then te σ2 H3 fun y H4 => ∃ acc, H4 D = some (.lst acc) ∧ acc.length < sizeLine ∧ Nx (upd H4 D (.lst (acc ++ [y]))) else Nx H3 := by
  have no : ∀ o' : Option V, o' = none → ∀ H4 : Hp, True := fun _ _ _ => trivial
  refine (fun z => ?_) (t H e (fun o' H4 => match o' with | some y => ∃ acc, H4 D = some (.lst acc) ∧ acc.length < sizeLine ∧ Nx (upd H4 D (.lst (acc ++ [y]))) | none => Nx H4) fun y H'' e2 p => ?_)
  · exact z
  · refine ⟨acc, e2 _ _ a, len, nx y H'' _ e2 p (Evl.Ex.mut (e.trans e2) hD) upd_same fun c o q n => (upd_ne fun z => ?_).trans q⟩
    rw [z, e2 _ _ a] at q
    exact n _ (Option.some.inj q).symm
theorem lcQ_tup {a : Addr} {xs : List V} (P : V → V → Hp → Prop) (La : Lasts P) (hS : SqT K H1 a xs) (len : xs.length < sizeLine) (t : ∀ (i : Nat) (x : V), xs[i]? = some x → turnQ g tt te vs σ x (P x) H1)
    (q : ∀ D ys H', H1 D = none → Ex H1 H' → H' D = some (.lst ys) → ys.length = xs.length → (∀ (i : Nat) (x : V), xs[i]? = some x → ∃ y, ys[i]? = some y ∧ P x y H') → Q (.ref D) H') : lcR g tt te vs σ Q (Itt K a) H1 := by
  intro D hD
  refine lc_tup (K := K) (a := a) (xs := xs) (fun i H => ∃ ys, Ex H1 H ∧ H D = some (.lst ys) ∧ ys.length = i ∧ ∀ (j : Nat) (x : V), j < i → xs[j]? = some x → ∃ y, ys[j]? = some y ∧ P x y H) ⟨[], Evl.Ex.new hD, upd_same, rfl, fun j x h => absurd h (Nat.not_lt_zero _)⟩ (fun i H _ ⟨_, e, _⟩ => Evl.ex_t e hS) (fun i x H hx p => ?_) (fun H p => ?_)
  · obtain ⟨ys, e, hd, yl, ok⟩ := p
    have hi := (List.getElem?_eq_some_iff.mp hx).1
    refine turnQ_in (t i x hx) e hD hd (by omega) fun y H2 H' e2 py e' hd' kp => ⟨ys ++ [y], e', hd', by rw [List.length_append, yl]; rfl, fun j x' hj hx' => ?_⟩
    rcases Nat.lt_or_ge j i with l | l
    · obtain ⟨y', h1, h2⟩ := ok j x' l hx'
      exact ⟨y', by rw [List.getElem?_append_left (by omega)]; exact h1, La _ _ _ _ h2 fun c o q n => kp c o (e2 _ _ q) n⟩
    · have ej : j = i := by omega
      subst ej
      rw [hx] at hx'
      injection hx' with hx'
      subst hx'
      exact ⟨y, by rw [← yl, List.getElem?_append_right (Nat.le_refl _), Nat.sub_self]; rfl, La _ _ _ _ py kp⟩
  · obtain ⟨ys, e, hd, yl, ok⟩ := p
    exact q D ys H hD e hd yl fun i x hx => ok i x (List.getElem?_eq_some_iff.mp hx).1 hx
theorem lcQ_list {a : Addr} {xs : List V} (P : V → V → Hp → Prop) (La : Lasts P) (hS : SqL K H1 a xs) (len : xs.length < sizeLine) (t : ∀ (i : Nat) (x : V), xs[i]? = some x → turnQ g tt te vs σ x (P x) H1)
    (q : ∀ D ys H', H1 D = none → Ex H1 H' → H' D = some (.lst ys) → ys.length = xs.length → (∀ (i : Nat) (x : V), xs[i]? = some x → ∃ y, ys[i]? = some y ∧ P x y H') → Q (.ref D) H') : lcR g tt te vs σ Q (Itl K a) H1 := by
  intro D hD
  refine lc_list (K := K) (a := a) (xs := xs) (fun i H => ∃ ys, Ex H1 H ∧ H D = some (.lst ys) ∧ ys.length = i ∧ ∀ (j : Nat) (x : V), j < i → xs[j]? = some x → ∃ y, ys[j]? = some y ∧ P x y H) ⟨[], Evl.Ex.new hD, upd_same, rfl, fun j x h => absurd h (Nat.not_lt_zero _)⟩ (fun i H _ ⟨_, e, _⟩ => Evl.ex_l e hS) (fun i x H hx p => ?_) (fun H p => ?_)
  · obtain ⟨ys, e, hd, yl, ok⟩ := p
    have hi := (List.getElem?_eq_some_iff.mp hx).1
    refine turnQ_in (t i x hx) e hD hd (by omega) fun y H2 H' e2 py e' hd' kp => ⟨ys ++ [y], e', hd', by rw [List.length_append, yl]; rfl, fun j x' hj hx' => ?_⟩
    rcases Nat.lt_or_ge j i with l | l
    · obtain ⟨y', h1, h2⟩ := ok j x' l hx'
      exact ⟨y', by rw [List.getElem?_append_left (by omega)]; exact h1, La _ _ _ _ h2 fun c o q n => kp c o (e2 _ _ q) n⟩
    · have ej : j = i := by omega
      subst ej
      rw [hx] at hx'
      injection hx' with hx'
      subst hx'
      exact ⟨y, by rw [← yl, List.getElem?_append_right (Nat.le_refl _), Nat.sub_self]; rfl, La _ _ _ _ py kp⟩
  · obtain ⟨ys, e, hd, yl, ok⟩ := p
    exact q D ys H hD e hd yl fun i x hx => ok i x (List.getElem?_eq_some_iff.mp hx).1 hx
/-- a plain item: no test, one name -/
theorem turnQ_map {i : Nat} {x : V} {P : V → Hp → Prop} (h : ∀ H', Ex H1 H' → ∀ R : VK, (∀ y H'', Ex H' H'' → P y H'' → R y H'') → te ((wipe σ [i]).set i (some x)) H' R) (w : wipe ((wipe σ [i]).set i (some x)) [i] = wipe σ [i] := by rfl) : turnQ (gName i) tYes te [i] σ x P H1 :=
  fun H' e R r => ⟨w, h H' e _ fun y H'' e2 p => r y H'' e2 p⟩
end
end Mine
namespace Mine
open PySem PySem.Spec PyProof.Rows L2
open Evl (Ex)
section
variable {g : TG} {tt : TT} {te : TE} {vs : List Nat} {σ : L2.St} {Q : VK} {H1 : Hp} {K : PySem.W.Frag}
theorem lcQ_rng {lo : Int} {n : Nat} (P : Nat → V → Hp → Prop) (La : ∀ (i : Nat) (y : V) (H H' : Hp), P i y H → (∀ c o, H c = some o → (∀ ys, o ≠ .lst ys) → H' c = some o) → P i y H') (len : n < sizeLine) (t : ∀ i, i < n → turnQ g tt te vs σ (.int (lo + (i : Int))) (P i) H1)
    (q : ∀ D ys H', H1 D = none → Ex H1 H' → H' D = some (.lst ys) → ys.length = n → (∀ (i : Nat), i < n → ∃ y, ys[i]? = some y ∧ P i y H') → Q (.ref D) H') : lcR g tt te vs σ Q (Itr lo n) H1 := by
  intro D hD
  refine lc_range (lo := lo) (n := n) (fun i H => ∃ ys, Ex H1 H ∧ H D = some (.lst ys) ∧ ys.length = i ∧ ∀ (j : Nat), j < i → ∃ y, ys[j]? = some y ∧ P j y H) ⟨[], Evl.Ex.new hD, upd_same, rfl, fun j h => absurd h (Nat.not_lt_zero _)⟩ (fun i H hi p => ?_) (fun H p => ?_)
  · obtain ⟨ys, e, hd, yl, ok⟩ := p
    refine turnQ_in (t i hi) e hD hd (by omega) fun y H2 H' e2 py e' hd' kp => ⟨ys ++ [y], e', hd', by rw [List.length_append, yl]; rfl, fun j hj => ?_⟩
    rcases Nat.lt_or_ge j i with l | l
    · obtain ⟨y', h1, h2⟩ := ok j l
      exact ⟨y', by rw [List.getElem?_append_left (by omega)]; exact h1, La _ _ _ _ h2 fun c o q n => kp c o (e2 _ _ q) n⟩
    · have ej : j = i := by omega
      subst ej
      exact ⟨y, by rw [← yl, List.getElem?_append_right (Nat.le_refl _), Nat.sub_self]; rfl, La _ _ _ _ py kp⟩
  · obtain ⟨ys, e, hd, yl, ok⟩ := p
    exact q D ys H hD e hd yl ok
end
end Mine
namespace Mine
open PySem PySem.Spec PyProof.Rows L2
open Evl (Ex)
/-! numbers of very many bits -/
def CMulB (i j : Int) : Prop := i.natAbs.log2 + j.natAbs.log2 < 100000000
theorem bits_log (x : Int) : Builtin.Int.intBits x ≤ x.natAbs.log2 + 1 := by
  unfold Builtin.Int.intBits
  split <;> omega
theorem log_bits (x : Int) : x.natAbs.log2 ≤ Builtin.Int.intBits x := by
  unfold Builtin.Int.intBits
  split
  · rename_i h
    have h : x = 0 := by simpa using h
    rw [h]; decide
  · omega
theorem CMulB.ok {i j : Int} (h : CMulB i j) : IntMulOk i j := by
  have h1 := bits_log i
  have h2 := bits_log j
  have h3 : i.natAbs.log2 + j.natAbs.log2 < 100000000 := h
  have line : bitsLine = 134217728 := by decide
  intro z
  have z2 := (Bool.and_eq_true _ _ ▸ z).2
  unfold Builtin.Int.intTooBig at z2
  have z3 := of_decide_eq_true z2
  rw [line] at z3
  omega
abbrev rMulB : R2 := rI CMulB fun i j => .int (i * j)
theorem op_mulB {X : Cx} : OpR X (binaryOp .Mult) rMulB := opI fun _ _ _ _ _ _ _ hc q => mul_int q hc.ok
/-- the end of a law, the script's bits told -/
theorem walk_bits {l : PySem.W.OpenLaw} {n k : Nat} {q : Program} {loose : List Str} {XP : (Str → Option Value) → Heap → Prop} {YP : World → Heap → Prop} {d : DefRec} {CX : CXT} {x : Str}
    (few : l.most = some n) (line : n ≤ sizeLine) (plain : d.params.defaults = []) (room : Room k callerA)
    (make : ∀ (w : World) (mg : Str → Option Value) (fa : Addr) (h : Heap), YP w h → h.Ns mainGlobals mg → mg d.name = some (.ref fa) →
      ∃ (K : PySem.W.Frag) (fd : FuncData) (sp : Sp), K.In h ∧ (∀ (s : Shared) (u : Value), BindsTo s fd ⟨[u], []⟩ [(x, u)]) ∧
        (∀ (H : Hp) (a : Addr) (ns : List Int), ns.length ≤ n → (∀ z ∈ ns, Builtin.Int.intBits z ≤ 1048576) → Only H → SqL K H a (ns.map V.int) → sp [.ref a] H (fun v _ => v = .bl true) fun _ _ _ => False) ∧
        ∀ base : Heap, K.In base → base.Ns mainGlobals mg → FnOk l.prog w K mg base CX k fa fd [x] sp)
    (calm : ∀ (H : Hp) (s : Shared) (e : Value) (s' : Shared), CX [] H s (fun _ _ _ => False) e s' → False) :
    PySem.W.WalkO q loose XP YP l.row.toRowW d [] (fun f vs => PySem.call f vs) := by
  refine Att.attach_callB few plain fun w s₀ s₁ mg mb fa o pm cd doc a vs ns G Y ho hd hcd hmg hobj isI hlen bits hg => ?_
  obtain ⟨K, fd, sp, KX, hb, ask, hF⟩ := make w mg fa _ Y G.T.g hmg
  exact law_call KX G.T.g G.T.b G.T.builtins G.T.nolimit hg hobj isI (Nat.le_trans hlen line) room hF hb (fun H hO hS => ask H a ns hlen bits hO hS) fun H e s' => calm H s₁ e s'
end Mine
namespace Mine
open PySem PySem.Spec PyProof.Rows L2
open Evl (Ex)
/-! rows of games, each with the one before it as its only option -/
def OddAt (m : Int) (k : Nat) : Prop := Builtin.bitAnd (m / 2 ^ (k : Int).toNat) 1 = 1
theorem oddAt_iff (m : Int) (k : Nat) : OddAt m k ↔ m / 2 ^ k % 2 = 1 := by
  unfold OddAt
  rw [bitAnd_m1, Int.toNat_natCast]
theorem oddAt_not {m : Int} {k : Nat} (hk : k < 100) : OddAt (2 ^ 100 - 1 - m) k ↔ ¬ OddAt m k := by
  rw [oddAt_iff, oddAt_iff]
  have e : (2 : Int) ^ 100 = 2 ^ k * (2 * 2 ^ (99 - k)) := by
    rw [← Int.pow_succ', ← Int.pow_add]
    congr 1
    omega
  rw [e]
  have hp : (0 : Int) < 2 ^ k := Int.pow_pos (by decide)
  have a1 := Int.emod_nonneg m (Int.ne_of_gt hp)
  have a2 := Int.emod_lt_of_pos m hp
  have a3 := Int.emod_add_mul_ediv m (2 ^ k)
  have z := ((Int.ediv_emod_unique (a := 2 ^ k * (2 * 2 ^ (99 - k)) - 1 - m) (b := 2 ^ k) (r := 2 ^ k - 1 - m % 2 ^ k) (q := 2 * 2 ^ (99 - k) - 1 - m / 2 ^ k) hp).mpr ⟨by
    rw [Int.mul_sub, Int.mul_sub, Int.mul_one]
    omega, by omega, by omega⟩).1
  rw [z]
  generalize m / 2 ^ k = q
  generalize (2 : Int) ^ (99 - k) = R
  omega
structure Chn (G : List Pr) (m : Int) (cs : List Int) : Prop where
  zero : cs[0]? = some 0
  step : ∀ k : Nat, k + 1 < cs.length → ∃ x y : Nat, cs[k]? = some (x : Int) ∧ cs[k + 1]? = some (y : Int) ∧ ((OddAt m k ∧ G[y]? = some ([(x : Int)], [])) ∨ (¬ OddAt m k ∧ G[y]? = some ([], [(x : Int)])))
theorem Chn.goes {G G' : List Pr} {m : Int} {cs : List Int} (c : Chn G m cs) (go : ∀ (i : Nat) (g : Pr), G[i]? = some g → G'[i]? = some g) : Chn G' m cs :=
  ⟨c.zero, fun k h => let ⟨x, y, hx, hy, z⟩ := c.step k h; ⟨x, y, hx, hy, z.imp (fun ⟨b, e⟩ => ⟨b, go _ _ e⟩) fun ⟨b, e⟩ => ⟨b, go _ _ e⟩⟩⟩
theorem Chn.snoc {G : List Pr} {m : Int} {cs : List Int} {n x y : Nat} (c : Chn G m cs) (l : cs.length = n + 1) (hx : cs[n]? = some (x : Int)) (h : (OddAt m n ∧ G[y]? = some ([(x : Int)], [])) ∨ (¬ OddAt m n ∧ G[y]? = some ([], [(x : Int)]))) : Chn G m (cs ++ [(y : Int)]) := by
  refine ⟨by rw [List.getElem?_append_left (by omega)]; exact c.zero, fun k hk => ?_⟩
  rw [List.length_append, List.length_singleton] at hk
  rcases Nat.lt_or_ge (k + 1) cs.length with lt | ge
  · obtain ⟨x, y, hx, hy, z⟩ := c.step k lt
    exact ⟨x, y, by rw [List.getElem?_append_left (by omega)]; exact hx, by rw [List.getElem?_append_left lt]; exact hy, z⟩
  · have e : k = n := by omega
    subst e
    exact ⟨x, y, by rw [List.getElem?_append_left (by omega)]; exact hx, by rw [← l, List.getElem?_append_right (Nat.le_refl _), Nat.sub_self]; rfl, h⟩
/-- two rows as a relation -/
def RC (cs ds : List Int) (i j : Int) : Prop := ∃ k : Nat, cs[k]? = some i ∧ ds[k]? = some j
theorem rc_bis {G : List Pr} {m m' : Int} {cs ds : List Int} (F : Forms G) (c : Chn G m cs) (d : Chn G m' ds) (len : cs.length = ds.length) (ne : ∀ k, k + 1 < cs.length → (OddAt m' k ↔ ¬ OddAt m k)) : Bis G (RC cs ds) := by
  rintro i j ⟨k, hi, hj⟩
  cases k with
  | zero =>
    have e1 : i = 0 := by have := c.zero; rw [hi] at this; exact Option.some.inj this
    have e2 : j = 0 := by have := d.zero; rw [hj] at this; exact Option.some.inj this
    subst e1; subst e2
    have nil : Img (RC cs ds) [] [] := ⟨fun x m => (nomatch m), fun x m => (nomatch m)⟩
    exact ⟨0, 0, _, _, rfl, rfl, F.zero, F.zero, nil, nil⟩
  | succ k =>
    have kl := (List.getElem?_eq_some_iff.mp hi).1
    obtain ⟨x, y, hx, hy, z⟩ := c.step k kl
    obtain ⟨x', y', hx', hy', z'⟩ := d.step k (by omega)
    rw [hi] at hy
    rw [hj] at hy'
    injection hy with hy
    injection hy' with hy'
    have nil : Img (RC cs ds) [] [] := ⟨fun x m => (nomatch m), fun x m => (nomatch m)⟩
    have one : Img (RC cs ds) [(x : Int)] [(x' : Int)] := ⟨fun a ma => by rw [List.mem_singleton.mp ma]; exact ⟨_, List.mem_singleton.mpr rfl, k, hx, hx'⟩, fun a ma => by rw [List.mem_singleton.mp ma]; exact ⟨_, List.mem_singleton.mpr rfl, k, hx, hx'⟩⟩
    have nk := ne k kl
    rcases z with ⟨b, e⟩ | ⟨b, e⟩
    · rcases z' with ⟨b', e'⟩ | ⟨b', e'⟩
      · exact absurd b (nk.mp b')
      · exact ⟨y, y', _, _, hy, hy', e, e', nil, one⟩
    · rcases z' with ⟨b', e'⟩ | ⟨b', e'⟩
      · exact ⟨y, y', _, _, hy, hy', e, e', one, nil⟩
      · exact absurd (nk.mpr b) b'
end Mine
namespace Mine
open PySem PySem.Spec PyProof.Rows L2
open Evl (Ex)
/-- a comprehension over a list whose items' reckoning changes the heap -/
theorem lcR_st {te : TE} {σ : L2.St} {Q : VK} {H1 : Hp} {K : PySem.W.Frag} {a : Addr} {xs : List V} {i : Nat} (St : Nat → List V → Hp → Prop) (hS : ∀ n acc H, St n acc H → SqL K H a xs) (len : xs.length < sizeLine)
    (mu : ∀ D n acc ys H H', H1 D = none → H D = some (.lst ys) → (∀ c o, H c = some o → c ≠ D → H' c = some o) → St n acc H → St n acc H') (h0 : ∀ D, H1 D = none → St 0 [] (upd H1 D (.lst [])))
    (hs : ∀ n x acc H D ys, H1 D = none → H D = some (.lst ys) → xs[n]? = some x → acc.length = n → St n acc H → ∀ R : VK, (∀ y H', H' D = some (.lst ys) → St (n + 1) (acc ++ [y]) H' → R y H') → te ((wipe σ [i]).set i (some x)) H R)
    (q : ∀ D acc H', H1 D = none → acc.length = xs.length → H' D = some (.lst acc) → St xs.length acc H' → Q (.ref D) H') (w : ∀ x, wipe ((wipe σ [i]).set i (some x)) [i] = wipe σ [i] := by intro x; rfl) : lcR (gName i) tYes te [i] σ Q (Itl K a) H1 := by
  intro D hD
  refine lc_list (K := K) (a := a) (xs := xs) (fun n H => ∃ acc : List V, acc.length = n ∧ H D = some (.lst acc) ∧ St n acc H) ⟨[], rfl, upd_same, h0 D hD⟩ (fun n H _ ⟨acc, _, _, s⟩ => hS n acc H s) (fun n x H hx ⟨acc, la, hd, s⟩ => ?_) (fun H ⟨acc, la, hd, s⟩ => q D acc H hD la hd s)
  refine ⟨w x, ?_⟩
  refine hs n x acc H D acc hD hd hx la s _ fun y H4 h4 s4 => ?_
  refine ⟨acc, h4, ?_, acc ++ [y], by rw [List.length_append, la]; rfl, upd_same, mu D _ _ acc H4 _ hD h4 (fun c o z n => (upd_ne n).trans z) s4⟩
  rw [la]
  exact Nat.lt_of_le_of_lt (Nat.le_of_lt (List.getElem?_eq_some_iff.mp hx).1) len
end Mine
namespace Mine
open PySem PySem.Spec PyProof.Rows L2
/-- the dict of a new yard -/
def ts0 : List (Key × V) := [(Sum.inl 0, V.int 0)]
theorem gr0 (i j : Int) : gr ts0 i j ↔ i = 0 ∧ j = 0 := by
  unfold gr ts0
  by_cases h : i = 0
  · subst h
    rw [valV_pos (p := ((Sum.inl 0 : Key), V.int 0)) rfl]
    constructor
    · intro e; injection e with e; injection e with e; exact ⟨rfl, e.symm⟩
    · rintro ⟨_, rfl⟩; rfl
  · rw [valV_neg (p := ((Sum.inl 0 : Key), V.int 0)) (fun e => h (Sum.inl.inj e).symm)]
    constructor
    · intro e; cases e
    · rintro ⟨e, _⟩; exact absurd e h
theorem key0 : dkey ts0 0 = true := rfl
theorem tok0 {G : List Pr} (F : Forms G) : TOk G ts0 := by
  refine ⟨fun i j r => ?_, fun i j r => (gr0 j i).mpr ((gr0 i j).mp r).symm, fun i d => ?_⟩
  · obtain ⟨rfl, rfl⟩ := (gr0 i j).mp r
    have nil : Img (gr ts0) [] [] := ⟨fun x m => (nomatch m), fun x m => (nomatch m)⟩
    exact ⟨0, 0, _, _, rfl, rfl, F.zero, F.zero, nil, nil⟩
  · by_cases h : i = 0
    · exact ⟨0, (gr0 i 0).mpr ⟨h, rfl⟩⟩
    · exfalso
      unfold dkey ts0 at d
      rw [valV_neg (p := ((Sum.inl 0 : Key), V.int 0)) (fun e => h (Sum.inl.inj e).symm)] at d
      cases d
theorem un_all (n : Nat) (dk : Int → Bool) : Un n dk ≤ n := by
  unfold Un
  have := List.length_filter_le (fun i => !dk i) (nums n)
  rw [nums_len] at this
  exact this
theorem lok0 {G : List Pr} (F : Forms G) : LenOk G ts0 := by
  have g0 := (List.getElem?_eq_some_iff.mp F.zero).1
  have := un_lt (n := G.length) (dk := fun _ => false) (dk' := dkey ts0) (a := 0) (fun i h => by cases h) ⟨by omega, by omega⟩ rfl key0
  have := un_all G.length fun _ => false
  show 1 + _ ≤ _
  omega
theorem phi0 (G : List Pr) (ts : List (Key × V)) : Phi G ts ≤ 2 * G.length := by
  have := un_all G.length (dkey ts)
  unfold Phi
  omega
end Mine
namespace Mine
open PySem PySem.Spec PyProof.Rows L2
open Evl (Ex)

local macro_rules | `(tactic| walk_at "mcond") => `(tactic| first
  | (show (0 : Int) < _; omega)
  | (show (0 : Int) ≤ _; omega)
  | (show CDiv _ _; exact ⟨by omega, by omega⟩)
  | (show CPow _ _; exact ⟨by omega, by omega, by omega⟩)
  | (show CMul _ _; exact Or.inl ⟨by omega, by omega⟩)
  | (show CMul _ _; exact Or.inr ⟨by omega, by omega⟩)
  | assumption)
local macro_rules | `(tactic| walk_at "mtr") => `(tactic| first
  | assumption
  | (refine tr_step (H := ?_) ?_ ?_; rotate_left; (focus assumption); walk_at "mtr"))
local macro_rules | `(tactic| walk_at "msq") => `(tactic| first
  | assumption
  | (refine k_sq ?_; walk_at "mtr")
  | (refine k_st ?_; walk_at "mtr")
  | exact Evl.ex_l (by first | assumption | solve_by_elim) (by assumption)
  | exact Evl.ex_t (by first | assumption | solve_by_elim) (by assumption))
local macro_rules | `(tactic| walk_at "mins") => `(tactic| walk_at "mtr")
local macro_rules | `(tactic| walk_at "mcls") => `(tactic| first | assumption | (apply FDyadic.cl; assumption))
local macro_rules | `(tactic| walk_at "mna") => `(tactic| first | assumption | (apply FDyadic.nt; assumption) | (apply FDyadic.np; assumption))
local macro_rules | `(tactic| walk_at "mlk") => `(tactic| first | assumption | exact dfs_top _ _ | exact dfs_power _ _)
local macro_rules | `(tactic| walk_at "mdy") => `(tactic| first
  | assumption
  | (refine dy_tr (H := ?_) ?_ ?_; rotate_left; (focus assumption); walk_at "mdy"))
local macro_rules | `(tactic| walk_at "mst") => `(tactic| first
  | with_reducible refine k_seq ?_
  | with_reducible refine k_asg ?_
  | ((with_reducible refine k_fldv (v := ?_) (fs := ?_) (C := ?_) (dx := ?_) (a := ?_) ?_ ?_ ?_ ?_ ?_ ?_); rotate_left 5; (focus exact rfl); (focus walk_at "mins"); (focus walk_at "mcls"); (focus walk_at "mna"); (focus walk_at "mlk"))
  | with_reducible refine k_name ?_
  | ((with_reducible refine k_var (v := ?_) ?_ ?_); rotate_left; (focus exact rfl))
  | with_reducible refine k_c ?_
  | with_reducible refine k_op ?_
  | with_reducible refine k_un ?_
  | with_reducible refine k_I0 ?_
  | with_reducible refine k_pow12 ?_
  | with_reducible refine k_pow18 ?_
  | with_reducible refine k_pow11 ?_
  | with_reducible refine k_pow9 ?_
  | with_reducible refine k_pow30 ?_
  | ((with_reducible refine k_shl1 ?_ ?_); (focus (constructor <;> omega)); intro _ _ _)
  | ((with_reducible refine k_minL ?_); intro _ _ _ _)
  | ((with_reducible refine k_maxL ?_); intro _ _ _ _)
  | ((with_reducible refine k_I ?_ ?_); (focus walk_at "mcond"))
  | with_reducible refine k_U ?_
  | with_reducible refine k_eqI ?_
  | with_reducible refine k_eqB ?_
  | with_reducible refine k_neI ?_
  | with_reducible refine k_isTy ?_
  | with_reducible refine k_isiII ?_
  | with_reducible refine k_isiIB ?_
  | with_reducible refine k_isiBB ?_
  | with_reducible refine k_isN ?_
  | with_reducible refine k_notN ?_
  | with_reducible refine k_chain ?_
  | with_reducible refine k_bl ?_
  | with_reducible refine k_test ?_
  | with_reducible refine k_B ?_
  | with_reducible refine k_and ?_
  | with_reducible refine k_or ?_
  | with_reducible refine k_not ?_
  | with_reducible refine k_if ?_
  | with_reducible refine k_ifS ?_
  | with_reducible refine k_andV ?_
  | with_reducible refine k_orV ?_
  | with_reducible refine k_notV ?_
  | with_reducible refine k_tup ?_
  | with_reducible refine k_lst ?_
  | with_reducible refine k_cb ?_
  | with_reducible refine k_nil ?_
  | with_reducible refine k_cons ?_
  | with_reducible refine k_rInt ?_
  | with_reducible refine k_rAbs ?_
  | with_reducible refine k_rMax ?_
  | with_reducible refine k_rMin ?_
  | ((with_reducible refine k_rLenL (ys := ?_) ?_ ?_); rotate_left; (focus walk_at "msq"))
  | ((with_reducible refine k_rLenT (ys := ?_) ?_ ?_); rotate_left; (focus walk_at "msq"))
  | with_reducible refine k_bm ?_
  | with_reducible refine k_bm0 ?_
  | ((with_reducible refine k_tyl (xs := ?_) ?_ ?_); rotate_left; (focus walk_at "msq"))
  | ((with_reducible refine k_rApp (xs := ?_) ?_ ?_ ?_); rotate_left; (focus walk_at "mtr"))
  | ((with_reducible refine dy_meth (t := ?_) (p := ?_) ?_ ?_ ?_ ?_); rotate_left 2; (focus walk_at "mdy"); (focus decide +kernel); (focus decide +kernel))
  | ((with_reducible refine dy_prop (t := ?_) (p := ?_) ?_ ?_); rotate_left 2; (focus walk_at "mdy"))
  | ((with_reducible refine dy_isC (t := ?_) (p := ?_) ?_ ?_); rotate_left 2; (focus walk_at "mdy"))
  | with_reducible refine k_call ?_
  | with_reducible refine k_meth ?_
  | with_reducible refine k_make ?_
  | with_reducible refine k_prop ?_
  | with_reducible refine k_ret ?_
  | with_reducible refine k_drop ?_
  | with_reducible refine k_next ?_
  | with_reducible refine k_for ?_
  | with_reducible refine k_rng1 ?_
  | with_reducible refine k_rng2 ?_
  | with_reducible refine k_ilist ?_
  | with_reducible refine k_itup ?_
  | with_reducible refine k_iteT ?_
  | with_reducible refine k_iteNT ?_
  | with_reducible refine k_iteNF ?_
  | with_reducible refine k_raise ?_
  | with_reducible refine k_iteF ?_
  | ((with_reducible refine k_ixT (xs := ?_) (v := ?_) ?_ ?_ ?_); rotate_left 2; (focus walk_at "msq"); (focus exact rfl))
  | with_reducible refine k_gnil ?_
  | with_reducible refine k_gcons ?_)
local macro_rules | `(tactic| walk_at "mcls") => `(tactic| first | assumption | (apply FYard.cl; assumption))
local macro_rules | `(tactic| walk_at "mna") => `(tactic| first | assumption | (apply FYard.nl; assumption) | (apply FYard.nr; assumption) | (apply FYard.nh; assumption) | (apply FYard.nn; assumption) | (apply FYard.nt; assumption))
local macro_rules | `(tactic| walk_at "mlk") => `(tactic| first | exact yfs_l _ | exact yfs_r _ | exact yfs_h _ | exact yfs_n _ | exact yfs_t _)
local macro_rules | `(tactic| walk_at "myd") => `(tactic| first
  | assumption
  | (refine YardAt.ex (H := ?_) ?_ ?_; rotate_right; (focus assumption); walk_at "myd"))
local macro_rules | `(tactic| walk_at "mst") => `(tactic| first
  | with_reducible refine k_sfl ?_
  | with_reducible refine k_lc ?_
  | with_reducible refine k_dnew ?_
  | with_reducible refine k_tru ?_
  | with_reducible refine k_rng3 ?_
  | with_reducible refine k_gsub ?_
  | with_reducible refine k_set1 ?_
  | with_reducible refine k_sadd ?_
  | with_reducible refine k_revL ?_
  | with_reducible refine k_nnot ?_
  | with_reducible refine k_nget ?_
  | with_reducible refine k_nput ?_
  | with_reducible refine k_dget ?_
  | with_reducible refine k_din ?_
  | with_reducible refine k_dnotin ?_
  | with_reducible refine k_dput ?_
  | with_reducible refine k_tsl ?_
  | with_reducible refine k_part ?_
  | with_reducible refine k_nopart ?_
  | with_reducible refine k_exi ?_
  | ((with_reducible refine k_rTupL (ys := ?_) ?_ ?_); rotate_left; (focus walk_at "msq"))
  | ((with_reducible refine k_rListL (ys := ?_) ?_ ?_); rotate_left; (focus walk_at "msq"))
  | ((with_reducible refine k_rListT (ys := ?_) ?_ ?_); rotate_left; (focus walk_at "msq"))
  | ((with_reducible refine k_in (ns := ?_) ?_ ?_); rotate_left; (focus walk_at "msq")))
def sp_Yard_d_init (P : Program) (w : World) (K : PySem.W.Frag) : Sp := fun vs H Q _ => ∃ (p dx : Addr), vs = [.ref p] ∧ H p = some (.ins (He.ga K "Yard") dx []) ∧
  ∀ H' F, F.y = p → (∀ c o, H c = some o → c ≠ p → H' c = some o ∧ Off F c) → YardAt P w K H' F [([], [])] [0] [(Sum.inl 0, V.int 0)] → Q .non H'
abbrev N_Yard_d_init : List Str := ["self"]
def t_Yard_d_init (P : Program) (w : World) (K : PySem.W.Frag) (E : XK) : TS := (tSeq (sFld K (tVar 0) (tLst (tCons (tTup tNil) tNil)) "_lefts") (tSeq (sFld K (tVar 0) (tLst (tCons (tTup tNil) tNil)) "_rights") (tSeq (sFld K (tVar 0) (tLst (tCons (tC (.int 0)) tNil)) "_heights") (tSeq (sFld K (tVar 0) (tNDisp P w (tTup (tCons (tTup tNil) (tCons (tTup tNil) tNil))) (tC (.int 0))) "_numbers") (sFld K (tVar 0) (tDisp [((tC (.int 0)), (tC (.int 0)))]) "_turned")))))
theorem len_Yard_d_init {P : Program} {w : World} {K : PySem.W.Frag} {vs : List V} {H : Hp} {Q : VK} {E : XK} (h : sp_Yard_d_init P w K vs H Q E) : vs.length = 1 := by
  obtain ⟨_, _, rfl, _⟩ := h; rfl
/-- all but p stays -/
def Bt (p : Addr) (H H' : Hp) : Prop := ∀ c o, H c = some o → c ≠ p → H' c = some o
theorem Bt.trans {p : Addr} {H H1 H2 : Hp} (a : Bt p H H1) (b : Bt p H1 H2) : Bt p H H2 := fun c o h n => b c o (a c o h n) n
theorem Bt.of {p : Addr} {H H1 : Hp} (a : Ex H H1) : Bt p H H1 := fun c o h _ => a c o h
theorem k_store {K : PySem.W.Frag} {R : L2.St → Hp → Prop} {σ : L2.St} {H2 : Hp} {p C dx : Addr} {fs : List (Str × V)} {f : Str} {v : V} (h : H2 p = some (.ins C dx fs)) (hc : Cls K C) (hn : NoAttr K C f) (hl : fs.length < 1000)
    (q : ∀ H3, Bt p H2 H3 → H3 p = some (.ins C dx (putF f v fs)) → R σ H3) :
    ∃ a C dx fs, V.ref p = V.ref a ∧ H2 a = some (.ins C dx fs) ∧ Cls K C ∧ NoAttr K C f ∧ fs.length < 1000 ∧ R σ (upd H2 a (.ins C dx (putF f v fs))) :=
  ⟨p, C, dx, fs, rfl, h, hc, hn, hl, q _ (fun c o e n => (upd_ne n).trans e) upd_same⟩
theorem pure_Yard_d_init {P : Program} {w : World} {K : PySem.W.Frag} (F : FYard K) (vs : List V) (H : Hp) (Q : VK) (E : XK) (h : sp_Yard_d_init P w K vs H Q E) : t_Yard_d_init P w K E { nx := fun _ H' => Q .non H', rt := Q } (start N_Yard_d_init vs) H := by
  obtain ⟨p, dx, rfl, hp, q⟩ := h
  unfold t_Yard_d_init
  repeat walk_at "mst"
  refine ⟨by decide, fun t1 n1 => ?_⟩
  have e1 := Evl.Ex.new (o := HO.tup []) n1
  have s1 : upd H t1 (HO.tup []) t1 = some (HO.tup []) := upd_same
  generalize upd H t1 (HO.tup []) = H1 at *
  repeat walk_at "mst"
  refine ⟨by show 1 ≤ sizeLine; decide, fun l nl => ?_⟩
  have e2 := Evl.Ex.new (o := HO.lst [V.ref t1]) nl
  have s2 : upd H1 l (HO.lst [V.ref t1]) l = some (HO.lst [V.ref t1]) := upd_same
  generalize upd H1 l (HO.lst [V.ref t1]) = H2 at *
  repeat walk_at "mst"
  refine k_store (e2 _ _ (e1 _ _ hp)) F.cl F.nl (by show 0 < 1000; decide) fun H3 b3 p3 => ?_
  have b03 : Bt p H H3 := (Bt.of (e1.trans e2)).trans b3
  have npt1 : t1 ≠ p := (ne_of_none hp n1).symm
  have npl : l ≠ p := (ne_of_none (e1 _ _ hp) nl).symm
  have t13 := b3 _ _ (e2 _ _ s1) npt1
  have l3 := b3 _ _ s2 npl
  have fresh3 : ∀ c, H3 c = none → H c = none := fun c n => by
    cases q : H c with
    | none => rfl
    | some o =>
      by_cases z : c = p
      · subst z; rw [p3] at n; cases n
      · rw [b03 _ _ q z] at n; cases n
  repeat walk_at "mst"
  refine ⟨by decide, fun t2 n2 => ?_⟩
  have e4 := Evl.Ex.new (o := HO.tup []) n2
  have s4 : upd H3 t2 (HO.tup []) t2 = some (HO.tup []) := upd_same
  generalize upd H3 t2 (HO.tup []) = H4 at *
  repeat walk_at "mst"
  refine ⟨by show 1 ≤ sizeLine; decide, fun r nr => ?_⟩
  have e5 := Evl.Ex.new (o := HO.lst [V.ref t2]) nr
  have s5 : upd H4 r (HO.lst [V.ref t2]) r = some (HO.lst [V.ref t2]) := upd_same
  generalize upd H4 r (HO.lst [V.ref t2]) = H5 at *
  repeat walk_at "mst"
  refine k_store (e5 _ _ (e4 _ _ p3)) F.cl F.nr (by rw [show (putF "_lefts" (V.ref l) []) = [(("_lefts" : Str), V.ref l)] from rfl]; show 1 < 1000; decide) fun H6 b6 p6 => ?_
  have b36 : Bt p H3 H6 := (Bt.of (e4.trans e5)).trans b6
  have npt2 : t2 ≠ p := (ne_of_none p3 n2).symm
  have npr : r ≠ p := (ne_of_none (e4 _ _ p3) nr).symm
  have nlr : l ≠ r := ne_of_none (e4 _ _ l3) nr
  have t26 := b6 _ _ (e5 _ _ s4) npt2
  have r6 := b6 _ _ s5 npr
  have l6 := b36 _ _ l3 npl
  have t16 := b36 _ _ t13 npt1
  repeat walk_at "mst"
  refine ⟨by show 1 ≤ sizeLine; decide, fun h nh => ?_⟩
  have e7 := Evl.Ex.new (o := HO.lst [V.int 0]) nh
  have s7 : upd H6 h (HO.lst [V.int 0]) h = some (HO.lst [V.int 0]) := upd_same
  generalize upd H6 h (HO.lst [V.int 0]) = H7 at *
  repeat walk_at "mst"
  refine k_store (e7 _ _ p6) F.cl F.nh (by have := length_putF "_rights" (V.ref r) (putF "_lefts" (V.ref l) []); have := length_putF "_lefts" (V.ref l) []; simp only [List.length_nil] at *; omega) fun H8 b8 p8 => ?_
  have b68 : Bt p H6 H8 := (Bt.of e7).trans b8
  have nph : h ≠ p := (ne_of_none p6 nh).symm
  have nlh : l ≠ h := ne_of_none l6 nh
  have nrh : r ≠ h := ne_of_none r6 nh
  have h8 := b8 _ _ s7 nph
  repeat walk_at "mst"
  refine fun n nn => ?_
  have e9 := Evl.Ex.new (o := NdO P w n []) nn
  have s9 : upd H8 n (NdO P w n []) n = some (NdO P w n []) := upd_same
  generalize upd H8 n (NdO P w n []) = H9 at *
  repeat walk_at "mst"
  refine ⟨by decide, fun u1 m1 => ?_⟩
  have e10 := Evl.Ex.new (o := HO.tup []) m1
  have s10 : upd H9 u1 (HO.tup []) u1 = some (HO.tup []) := upd_same
  generalize upd H9 u1 (HO.tup []) = H10 at *
  repeat walk_at "mst"
  refine ⟨by decide, fun u2 m2 => ?_⟩
  have e11 := Evl.Ex.new (o := HO.tup []) m2
  have s11 : upd H10 u2 (HO.tup []) u2 = some (HO.tup []) := upd_same
  generalize upd H10 u2 (HO.tup []) = H11 at *
  repeat walk_at "mst"
  refine ⟨by show 2 ≤ sizeLine; decide, fun k mk => ?_⟩
  have e12 := Evl.Ex.new (o := HO.tup [V.ref u1, V.ref u2]) mk
  have s12 : upd H11 k (HO.tup [V.ref u1, V.ref u2]) k = some (HO.tup [V.ref u1, V.ref u2]) := upd_same
  generalize upd H11 k (HO.tup [V.ref u1, V.ref u2]) = H12 at *
  repeat walk_at "mst"
  have kk : PrT H12 k ([], []) := ⟨u1, u2, s12, e12 _ _ (e11 _ _ s10), e12 _ _ s11⟩
  refine ⟨k, ([], []), 0, rfl, rfl, e12 _ _ (e11 _ _ (e10 _ _ s9)), kk, ?_⟩
  have g0 : H12 n = some (NdO P w n []) := e12 _ _ (e11 _ _ (e10 _ _ s9))
  have b13 : ∀ c o, H12 c = some o → c ≠ n → upd H12 n (NdO P w n [(([], []), k, 0)]) c = some o := fun c o z y => (upd_ne y).trans z
  have s13 : upd H12 n (NdO P w n [(([], []), k, 0)]) n = some (NdO P w n [(([], []), k, 0)]) := upd_same
  generalize upd H12 n (NdO P w n [(([], []), k, 0)]) = H13 at *
  have e8c : Ex H8 H12 := e9.trans (e10.trans (e11.trans e12))
  have npn : n ≠ p := (ne_of_none p8 nn).symm
  have e813 : ∀ c o, H8 c = some o → H13 c = some o := fun c o z => b13 _ _ (e8c _ _ z) (ne_of_none z nn)
  have kk13 : PrT H13 k ([], []) := kk.ex fun c xs z => b13 _ _ z (ne_of z g0 (by intro y; cases y))
  repeat walk_at "mst"
  refine k_store (e813 _ _ p8) F.cl F.nn (by have := length_putF "_heights" (V.ref h) (putF "_rights" (V.ref r) (putF "_lefts" (V.ref l) [])); have := length_putF "_rights" (V.ref r) (putF "_lefts" (V.ref l) []); have := length_putF "_lefts" (V.ref l) []; simp only [List.length_nil] at *; omega) fun H14 b14 p14 => ?_
  have n14 := b14 _ _ s13 npn
  have npk : k ≠ p := fun z => by
    obtain ⟨_, _, y, _⟩ := kk13
    rw [z, e813 _ _ p8] at y; cases y
  have kk14 : PrT H14 k ([], []) := by
    refine kk13.ex fun c xs z => b14 _ _ z fun y => ?_
    rw [y, e813 _ _ p8] at z; cases z
  have b814 : Bt p H8 H14 := fun c o z y => b14 _ _ (e813 _ _ z) y
  repeat walk_at "mst"
  refine fun t nt => ?_
  have e15 := Evl.Ex.new (o := HO.dK []) nt
  have s15 : upd H14 t (HO.dK []) t = some (HO.dK []) := upd_same
  generalize upd H14 t (HO.dK []) = H15 at *
  show tPairs _ _ _ _
  unfold tPairs
  repeat walk_at "mst"
  unfold tPairs
  refine ⟨s15, [(Sum.inl 0, V.int 0)], rfl, by decide, ?_⟩
  have b16 : ∀ c o, H15 c = some o → c ≠ t → upd H15 t (HO.dK (mergeK [] [(Sum.inl 0, V.int 0)])) c = some o := fun c o z y => (upd_ne y).trans z
  have s16 : upd H15 t (HO.dK (mergeK [] [(Sum.inl 0, V.int 0)])) t = some (HO.dK [(Sum.inl 0, V.int 0)]) := upd_same
  generalize upd H15 t (HO.dK (mergeK [] [(Sum.inl 0, V.int 0)])) = H16 at *
  have e1416 : ∀ c o, H14 c = some o → H16 c = some o := fun c o z => b16 _ _ (e15 _ _ z) (ne_of_none z nt)
  have npt : t ≠ p := (ne_of_none p14 nt).symm
  repeat walk_at "mst"
  refine k_store (e1416 _ _ p14) F.cl F.nt (by have := length_putF "_numbers" (V.ref n) (putF "_heights" (V.ref h) (putF "_rights" (V.ref r) (putF "_lefts" (V.ref l) []))); have := length_putF "_heights" (V.ref h) (putF "_rights" (V.ref r) (putF "_lefts" (V.ref l) [])); have := length_putF "_rights" (V.ref r) (putF "_lefts" (V.ref l) []); have := length_putF "_lefts" (V.ref l) []; simp only [List.length_nil] at *; omega) fun H17 b17 p17 => ?_
  have b1417 : Bt p H14 H17 := fun c o z y => b17 _ _ (e1416 _ _ z) y
  have b617 : Bt p H6 H17 := b68.trans (b814.trans b1417)
  have b017 : Bt p H H17 := b03.trans (b36.trans b617)
  refine q H17 ⟨p, dx, l, r, h, n, t⟩ rfl (fun c o z y => ⟨b017 _ _ z y, ?_⟩) ⟨p17, ⟨_, b617 _ _ l6 npl, rfl, fun i g e => ?_⟩, ⟨_, b617 _ _ r6 npr, rfl, fun i g e => ?_⟩, ⟨(b814.trans b1417) _ _ h8 nph, rfl⟩, ⟨_, b1417 _ _ n14 npn, fun x m => ?_, rfl, fun i g e => ?_⟩, b17 _ _ s16 npt, ⟨nlr, nlh, nrh⟩, fun i g e => ?_, ⟨rfl, by simp, fun i g e => ?_⟩⟩
  · have z3 := b03 _ _ z y
    have z6 := b36 _ _ z3 y
    have z8 := b68 _ _ z6 y
    have z14 := b814 _ _ z8 y
    exact ⟨ne_of_none (e1 _ _ z) nl, ne_of_none (e4 _ _ z3) nr, ne_of_none z6 nh, ne_of_none z8 nn, ne_of_none z14 nt⟩
  · cases i with
    | zero => cases e; exact ⟨t1, rfl, b617 _ _ t16 npt1⟩
    | succ i => simp at e
  · cases i with
    | zero => cases e; exact ⟨t2, rfl, b617 _ _ t26 npt2⟩
    | succ i => simp at e
  · rw [List.mem_singleton] at m
    subst m
    refine kk14.ex fun c xs z => b1417 _ _ z fun y => ?_
    rw [y, p14] at z; cases z
  · cases i with
    | zero => cases e; exact ⟨k, rfl⟩
    | succ i => simp at e
  · cases i with
    | zero => cases e; exact Or.inl ⟨rfl, rfl⟩
    | succ i => simp at e
  · cases i with
    | zero => cases e; exact ⟨⟨.nil, fun x m => nomatch m⟩, ⟨.nil, fun x m => nomatch m⟩⟩
    | succ i => simp at e
/-- a yard is made -/
theorem mk_yard {P : Program} {w : World} {K : PySem.W.Frag} {H : Hp} {Q : Addr → Hp → Prop} {E : XK} (k : ∀ F H', (∀ c o, H c = some o → H' c = some o ∧ Off F c) → YardAt P w K H' F [([], [])] [0] [(Sum.inl 0, V.int 0)] → Q F.y H') :
    ∀ x dx, H x = none → H dx = none → dx ≠ x → sp_Yard_d_init P w K (.ref x :: ([] ++ [])) (upd (upd H dx (.own x)) x (.ins (He.ga K "Yard") dx [])) (fun v H2 => v = .non ∧ Q x H2) E := by
  intro x dx hx hd hne
  refine ⟨x, dx, rfl, upd_same, fun H' F e fr Y => ⟨rfl, ?_⟩⟩
  subst e
  refine k F H' (fun c o z => ?_) Y
  have h1 : c ≠ F.y := ne_of_none z hx
  refine fr c o ?_ h1
  rw [upd_ne h1, upd_ne (ne_of_none z hd)]
  exact z
def sp_law_cell (K : PySem.W.Frag) : Sp := fun vs H Q _ => ∃ (a : Addr) (ns : List Int) (k : Int), vs = [.ref a, .int k] ∧ SqL K H a (ns.map V.int) ∧ 0 ≤ k ∧ ∀ i, (i ∈ ns ∨ (0 ≤ i ∧ i < 2147483647) ∨ i = 104729 * k + 7) → Q (.int i) H
abbrev N_law_cell : List Str := ["script", "k", "mixed", "cell"]
def t_law_cell (K : PySem.W.Frag) (E : XK) : TS := (tSeq (tIfS (tTest (tOp rLtI (tVar 1) (tCB (rLenQ K) (tCons (tVar 0) tNil)))) (tRet (tOp (rIxL K) (tVar 0) (tVar 1))) tNext) (tSeq (tAsg (tOp rAddI (tOp rMulI (tC (.int 104729)) (tVar 1)) (tC (.int 7))) (gName 2)) (tSeq (tFor (iList K (tVar 0)) (gName 3) (tAsg (tOp rModI (tCB rIntI (tCons (tOp rAddI (tOp rMulI (tVar 2) (tC (.int 31))) (tVar 3)) tNil)) (tC (.int 2147483647))) (gName 2))) (tRet (tVar 2)))))
theorem len_law_cell {K : PySem.W.Frag} {vs : List V} {H : Hp} {Q : VK} {E : XK} (h : sp_law_cell K vs H Q E) : vs.length = 2 := by
  obtain ⟨_, _, _, rfl, _⟩ := h; rfl
theorem pure_law_cell {K : PySem.W.Frag} (vs : List V) (H : Hp) (Q : VK) (E : XK) (h : sp_law_cell K vs H Q E) : t_law_cell K E { nx := fun _ H' => Q .non H', rt := Q } (start N_law_cell vs) H := by
  obtain ⟨a, ns, k, rfl, hS, hk, q⟩ := h
  unfold t_law_cell
  repeat walk_at "mst"
  refine k_iteD (fun hc => ?_) (fun hc => ?_)
  · rw [List.length_map] at hc
    obtain ⟨z, mz, hz⟩ := at_int hk hc
    repeat walk_at "mst"
    exact k_ixL hS hz (q _ (Or.inl (List.mem_of_getElem? mz)))
  · repeat walk_at "mst"
    refine ⟨a, rfl, ⟨_, hS⟩, forK_list (xs := ns.map V.int) (fun i σ H' => H' = H ∧ ∃ (m : Int) (v : Option V), ((0 ≤ m ∧ m < 2147483647) ∨ m = 104729 * k + 7) ∧ σ = [some (.ref a), some (.int k), some (.int m), v]) ⟨rfl, _, _, Or.inr rfl, rfl⟩ ?_ ?_ ?_⟩
    · rintro i σ H' _ ⟨rfl, _⟩; exact hS
    · rintro i x σ H' hx ⟨rfl, m, v, _, rfl⟩
      obtain ⟨z, _, rfl⟩ := get_int hx
      repeat walk_at "mst"
      exact ⟨rfl, _, _, Or.inl ⟨by omega, by omega⟩, rfl⟩
    · rintro σ H' ⟨rfl, m, v, b, rfl⟩
      repeat walk_at "mst"
      exact q _ (Or.inr b)
theorem use_cellB {K : PySem.W.Frag} {H : Hp} {Q : VK} {E : XK} {a : Addr} {ns : List Int} {k : Int} (h : SqL K H a (ns.map V.int)) (h0 : 0 ≤ k) (q : ∀ i, (i ∈ ns ∨ (0 ≤ i ∧ i < 2147483647) ∨ i = 104729 * k + 7) → Q (.int i) H) : sp_law_cell K ([.ref a, .int k] ++ []) H Q E := ⟨a, ns, k, rfl, h, h0, q⟩
theorem use_cell {K : PySem.W.Frag} {H : Hp} {Q : VK} {E : XK} {a : Addr} {ns : List Int} {k : Int} (h : SqL K H a (ns.map V.int)) (h0 : 0 ≤ k) (q : ∀ i, Q (.int i) H) : sp_law_cell K ([.ref a, .int k] ++ []) H Q E := ⟨a, ns, k, rfl, h, h0, fun i _ => q i⟩
def sp_law_digits (K : PySem.W.Frag) : Sp := spR (fun vs H => ∃ (c n : Int), vs = [.int c, .int n] ∧ 0 ≤ n ∧ n ≤ 1000)
  (fun vs H v H' => ∃ (c n : Int) (p : Addr) (ds : List Int), vs = [.int c, .int n] ∧ v = .ref p ∧ H p = none ∧ Ex H H' ∧ H' p = some (.lst (ds.map V.int)) ∧ (ds.length : Int) = n ∧ ∀ d ∈ ds, 0 ≤ d ∧ d < 60)
abbrev N_law_digits : List Str := ["cell", "count", "row", "k", "seed"]
def t_law_digits (K : PySem.W.Frag) (E : XK) : TS := (tSeq (tAsg (tLst tNil) (gName 2)) (tSeq (tIfS (tTest (tOp rGeI (tVar 0) (tOp rPowI (tC (.int 10)) (tC (.int 18))))) (tSeq (tFor (iRng1 (tCons (tVar 1) tNil)) (gName 3) (tSeq (tDrop (tBM K "list" rAppend (tVar 2) (tCons (tOp rModI (tCB rIntI (tCons (tVar 0) tNil)) (tC (.int 60))) tNil))) (tAsg (tOp rDivI (tVar 0) (tC (.int 60))) (gName 0)))) (tRet (tVar 2))) tNext) (tSeq (tAsg (tOp rModI (tCB rIntI (tCons (tOp rAddI (tOp rMulI (tVar 0) (tC (.int 48271))) (tC (.int 11))) tNil)) (tC (.int 2147483647))) (gName 4)) (tSeq (tFor (iRng1 (tCons (tVar 1) tNil)) (gName 3) (tSeq (tAsg (tOp rModI (tCB rIntI (tCons (tOp rAddI (tOp rAddI (tOp rMulI (tVar 4) (tC (.int 69621))) (tOp rMulI (tC (.int 7)) (tVar 3))) (tC (.int 1))) tNil)) (tC (.int 2147483629))) (gName 4)) (tDrop (tBM K "list" rAppend (tVar 2) (tCons (tOp rModI (tCB rIntI (tCons (tOp rDivI (tVar 4) (tC (.int 64))) tNil)) (tC (.int 60))) tNil))))) (tRet (tVar 2))))))
theorem len_law_digits {K : PySem.W.Frag} {vs : List V} {H : Hp} {Q : VK} {E : XK} (h : sp_law_digits K vs H Q E) : vs.length = 2 := by
  obtain ⟨⟨_, _, rfl, _⟩, _⟩ := h; rfl
theorem dg_more {ds : List Int} {z : Int} (h : ∀ d ∈ ds, 0 ≤ d ∧ d < 60) (hz : 0 ≤ z ∧ z < 60) : ∀ d ∈ ds ++ [z], 0 ≤ d ∧ d < 60 := by
  intro d hd
  rcases List.mem_append.mp hd with m | m
  · exact h d m
  · rw [List.mem_singleton.mp m]; exact hz
theorem map_more (ds : List Int) (z : Int) : ds.map V.int ++ [V.int z] = (ds ++ [z]).map V.int := by simp
theorem pure_law_digits {K : PySem.W.Frag} (vs : List V) (H : Hp) (Q : VK) (E : XK) (h : sp_law_digits K vs H Q E) : t_law_digits K E { nx := fun _ H' => Q .non H', rt := Q } (start N_law_digits vs) H := by
  obtain ⟨⟨c, n, rfl, h0, h1⟩, q⟩ := h
  unfold t_law_digits
  repeat walk_at "mst"
  refine ⟨by show 0 ≤ sizeLine; decide, fun p hp => ?_⟩
  repeat walk_at "mst"
  refine k_iteD (fun hc => ?_) (fun hc => ?_)
  · repeat walk_at "mst"
    refine ⟨_, rfl, by omega, by omega, forK_range (fun i σ H' => Ex H H' ∧ ∃ (ds : List Int) (m : Int) (v w : Option V), H' p = some (.lst (ds.map V.int)) ∧ ds.length = i ∧ (∀ d ∈ ds, 0 ≤ d ∧ d < 60) ∧ σ = [some (.int m), some (.int n), some (.ref p), v, w]) ?_ ?_ ?_⟩
    · exact ⟨Evl.Ex.new hp, [], c, none, none, upd_same, rfl, by simp, rfl⟩
    · rintro i σ H' hi ⟨e, ds, m, v, w, hl, hn, hd, rfl⟩
      repeat walk_at "mst"
      · exact k_sizeL (by omega)
      repeat walk_at "mst"
      exact ⟨Evl.Ex.mut e hp, ds ++ [m % 60], _, _, _, by rw [upd_same, map_more], by simp [hn], dg_more hd ⟨by omega, by omega⟩, rfl⟩
    · rintro σ H' ⟨e, ds, m, v, w, hl, hn, hd, rfl⟩
      repeat walk_at "mst"
      exact q _ _ ⟨c, n, p, ds, rfl, rfl, hp, e, hl, by omega, hd⟩
  · repeat walk_at "mst"
    refine ⟨_, rfl, by omega, by omega, forK_range (fun i σ H' => Ex H H' ∧ ∃ (ds : List Int) (m : Int) (v : Option V), H' p = some (.lst (ds.map V.int)) ∧ ds.length = i ∧ (∀ d ∈ ds, 0 ≤ d ∧ d < 60) ∧ σ = [some (.int c), some (.int n), some (.ref p), v, some (.int m)]) ?_ ?_ ?_⟩
    · exact ⟨Evl.Ex.new hp, [], _, _, upd_same, rfl, by simp, rfl⟩
    · rintro i σ H' hi ⟨e, ds, m, v, hl, hn, hd, rfl⟩
      repeat walk_at "mst"
      · exact k_sizeL (by omega)
      repeat walk_at "mst"
      exact ⟨Evl.Ex.mut e hp, ds ++ [_], _, _, by rw [upd_same, map_more], by simp [hn], dg_more hd ⟨by omega, by omega⟩, rfl⟩
    · rintro σ H' ⟨e, ds, m, v, hl, hn, hd, rfl⟩
      repeat walk_at "mst"
      exact q _ _ ⟨c, n, p, ds, rfl, rfl, hp, e, hl, by omega, hd⟩
theorem use_digits {K : PySem.W.Frag} {H : Hp} {Q : VK} {E : XK} {c n : Int} (h : 0 ≤ n ∧ n ≤ 1000) (q : ∀ (p : Addr) (ds : List Int) (H' : Hp), H p = none → Ex H H' → H' p = some (.lst (ds.map V.int)) → (ds.length : Int) = n → (∀ d ∈ ds, 0 ≤ d ∧ d < 60) → Q (.ref p) H') : sp_law_digits K ([.int c, .int n] ++ []) H Q E := by
  refine ⟨⟨c, n, rfl, h.1, h.2⟩, ?_⟩
  rintro v H' ⟨c', n', p, ds, e, rfl, h1, h2, h3, h4, h5⟩
  cases e
  exact q p ds H' h1 h2 h3 h4 h5
def gd_Yard_m_check (P : Program) (w : World) (K : PySem.W.Frag) : Sp := fun vs H Q _ => ∃ (F : Foot) (G : List Pr) (hs : List Int) (ts : List (Key × V)) (g : Int), vs = [.ref F.y, .int g] ∧ YardAt P w K H F G hs ts ∧ 0 ≤ g ∧ g < G.length ∧ Q .non H
def bd_Yard_m_check (P : Program) (w : World) (K : PySem.W.Frag) : Sp := fun vs H _ E => ∃ (F : Foot) (G : List Pr) (hs : List Int) (ts : List (Key × V)) (g : Int), vs = [.ref F.y, .int g] ∧ YardAt P w K H F G hs ts ∧ ¬ (0 ≤ g ∧ g < G.length) ∧ ∀ H', Ex H H' → E (.ref (He.ga K "Unknown")) none H'
def sp_Yard_m_check (P : Program) (w : World) (K : PySem.W.Frag) : Sp := fun vs H Q E => gd_Yard_m_check P w K vs H Q E ∨ bd_Yard_m_check P w K vs H Q E
abbrev N_Yard_m_check : List Str := ["self", "game"]
def t_Yard_m_check (P : Program) (w : World) (K : PySem.W.Frag) (E : XK) : TS := (tIfS (tNot (tTest (tChain rLeI rLtI (tC (.int 0)) (tVar 1) (tCB (rLenQ K) (tCons (tFld K (tVar 0) "_lefts") tNil))))) (tRaise E (.ref (He.ga K "Unknown"))) tNext)
theorem lenG_Yard_m_check {P : Program} {w : World} {K : PySem.W.Frag} {vs : List V} {H : Hp} {Q : VK} {E : XK} (h : gd_Yard_m_check P w K vs H Q E) : vs.length = 2 := by
  obtain ⟨_, _, _, _, _, rfl, _⟩ := h; rfl
theorem pureG_Yard_m_check {P : Program} {w : World} {K : PySem.W.Frag} (FY : FYard K) (vs : List V) (H : Hp) (Q : VK) (E : XK) (h : gd_Yard_m_check P w K vs H Q E) : t_Yard_m_check P w K E { nx := fun _ H' => Q .non H', rt := Q } (start N_Yard_m_check vs) H := by
  obtain ⟨F, G, hs, ts, g, rfl, Y, g0, g1, q⟩ := h
  obtain ⟨xs, hl, rows⟩ := Y.ls
  have hi := Y.ins
  have len : xs.length = G.length := by rw [rows.1, List.length_map]
  unfold t_Yard_m_check
  repeat walk_at "mst"
  refine k_iteD (fun _ => ?_) (fun h => absurd g0 h)
  repeat walk_at "mst"
  exact k_iteN (fun h => absurd (by rw [len]; exact g1) h) (fun _ => q)
theorem use_check {P : Program} {w : World} {K : PySem.W.Frag} {H : Hp} {Q : VK} {E : XK} {F : Foot} {G : List Pr} {hs : List Int} {ts : List (Key × V)} {g : Int} (Y : YardAt P w K H F G hs ts) (b : 0 ≤ g ∧ g < G.length) (q : Q .non H) : sp_Yard_m_check P w K (.ref F.y :: ([.int g] ++ [])) H Q E := Or.inl ⟨F, G, hs, ts, g, rfl, Y, b.1, b.2, q⟩
theorem lenB_Yard_m_check {P : Program} {w : World} {K : PySem.W.Frag} {vs : List V} {H : Hp} {Q : VK} {E : XK} (h : bd_Yard_m_check P w K vs H Q E) : vs.length = 2 := by
  obtain ⟨_, _, _, _, _, rfl, _⟩ := h; rfl
theorem len_Yard_m_check {P : Program} {w : World} {K : PySem.W.Frag} {vs : List V} {H : Hp} {Q : VK} {E : XK} (h : sp_Yard_m_check P w K vs H Q E) : vs.length = 2 := h.elim lenG_Yard_m_check lenB_Yard_m_check
theorem pureB_Yard_m_check {P : Program} {w : World} {K : PySem.W.Frag} (FY : FYard K) (vs : List V) (H : Hp) (Q : VK) (E : XK) (h : bd_Yard_m_check P w K vs H Q E) : t_Yard_m_check P w K E { nx := fun _ H' => Q .non H', rt := Q } (start N_Yard_m_check vs) H := by
  obtain ⟨F, G, hs, ts, g, rfl, Y, b, q⟩ := h
  obtain ⟨xs, hl, rows⟩ := Y.ls
  have hi := Y.ins
  have len : xs.length = G.length := by rw [rows.1, List.length_map]
  unfold t_Yard_m_check
  repeat walk_at "mst"
  refine k_iteD (fun h0 => ?_) (fun _ => ?_)
  · repeat walk_at "mst"
    refine k_iteN (fun _ => ?_) (fun h => absurd ⟨h0, by rw [len] at h; exact h⟩ b)
    repeat walk_at "mst"
    exact q _ (Evl.Ex.refl _)
  · repeat walk_at "mst"
    exact q _ (Evl.Ex.refl _)
theorem pure_Yard_m_check {P : Program} {w : World} {K : PySem.W.Frag} (FY : FYard K) (vs : List V) (H : Hp) (Q : VK) (E : XK) (h : sp_Yard_m_check P w K vs H Q E) : t_Yard_m_check P w K E { nx := fun _ H' => Q .non H', rt := Q } (start N_Yard_m_check vs) H := h.elim (pureG_Yard_m_check FY vs H Q E) (pureB_Yard_m_check FY vs H Q E)
theorem useB_check {P : Program} {w : World} {K : PySem.W.Frag} {H : Hp} {Q : VK} {E : XK} {F : Foot} {G : List Pr} {hs : List Int} {ts : List (Key × V)} {g : Int} (Y : YardAt P w K H F G hs ts) (b : ¬ (0 ≤ g ∧ g < G.length)) (q : ∀ H', Ex H H' → E (.ref (He.ga K "Unknown")) none H') : sp_Yard_m_check P w K (.ref F.y :: ([.int g] ++ [])) H Q E := Or.inr ⟨F, G, hs, ts, g, rfl, Y, b, q⟩
def gd_Yard_m_reached (P : Program) (w : World) (K : PySem.W.Frag) : Sp := fun vs H Q _ => ∃ (F : Foot) (G : List Pr) (hs : List Int) (ts : List (Key × V)) (k : Int) (dn : Addr) (kvs : List (Key × V)), vs = [.ref F.y, .int k, .ref dn] ∧ YardAt P w K H F G hs ts ∧ 0 ≤ k ∧ k < G.length ∧ G.length ≤ 900 ∧ H dn = some (.dK kvs) ∧
  ∀ (p : Addr) (rs : List Int) (H' : Hp), H p = none → Ex H H' → H' p = some (.lst (rs.map V.int)) → rs.Pairwise (· < ·) → (∀ j, j ∈ rs ↔ Rch G (dkey kvs) k j) → Q (.ref p) H'
def bd_Yard_m_reached (P : Program) (w : World) (K : PySem.W.Frag) : Sp := fun vs H _ E => ∃ (F : Foot) (G : List Pr) (hs : List Int) (ts : List (Key × V)) (g : Int) (x : V), vs = [.ref F.y, .int g, x] ∧ YardAt P w K H F G hs ts ∧ ¬ (0 ≤ g ∧ g < G.length) ∧ ∀ H', Ex H H' → E (.ref (He.ga K "Unknown")) none H'
def sp_Yard_m_reached (P : Program) (w : World) (K : PySem.W.Frag) : Sp := fun vs H Q E => gd_Yard_m_reached P w K vs H Q E ∨ bd_Yard_m_reached P w K vs H Q E
abbrev N_Yard_m_reached : List Str := ["self", "game", "done", "seen", "waiting", "follower", "option"]
def t_Yard_m_reached (P : Program) (w : World) (K : PySem.W.Frag) (E : XK) : TS := (tSeq (tDrop (tMeth (He.ga K "Yard") "check" (sp_Yard_m_check P w K) [] E (tVar 0) (tCons (tVar 1) tNil))) (tSeq (tIfS (tB (tDIn (tVar 1) (tVar 2))) (tRet (tLst tNil)) tNext) (tSeq (tAsg (tSet1 w (tVar 1)) (gName 3)) (tSeq (tAsg (tLst (tCons (tVar 1) tNil)) (gName 4)) (tSeq (tWhile (tTru K (tVar 4)) (tSeq (tAsg (tBM0 K "list" rPop (tVar 4)) (gName 5)) (tFor (iTup K (tOp (rCatA K) (tOp (rIxL K) (tFld K (tVar 0) "_lefts") (tVar 5)) (tOp (rIxL K) (tFld K (tVar 0) "_rights") (tVar 5)))) (gName 6) (tIfS (tAnd (tTest (tOp (rSNotIn w) (tVar 6) (tVar 3))) (tB (tDNotIn (tVar 6) (tVar 2)))) (tSeq (tDrop (tSAdd w (tVar 3) (tCons (tVar 6) tNil))) (tDrop (tBM K "list" rAppend (tVar 4) (tCons (tVar 6) tNil)))) tNext)))) (tRet (tCB (rSortX w) (tCons (tVar 3) tNil))))))))
theorem lenG_Yard_m_reached {P : Program} {w : World} {K : PySem.W.Frag} {vs : List V} {H : Hp} {Q : VK} {E : XK} (h : gd_Yard_m_reached P w K vs H Q E) : vs.length = 3 := by
  obtain ⟨_, _, _, _, _, _, _, rfl, _⟩ := h; rfl
/-- what is known between the turns: l is seen, of these ws wait -/
structure Wk (G : List Pr) (dk : Int → Bool) (k : Int) (l ws : List Int) : Prop where
  one : l.Nodup
  hk : k ∈ l
  ok : ∀ j ∈ l, Rch G dk k j
  wl : ∀ j ∈ ws, j ∈ l
  cl : ∀ i ∈ l, i ∉ ws → ∀ (g : Pr), G[i.toNat]? = some g → ∀ j ∈ g.1 ++ g.2, dk j = false → j ∈ l
theorem Wk.all {G : List Pr} {dk : Int → Bool} {k : Int} {l : List Int} (x : Wk G dk k l []) : ∀ j, j ∈ l ↔ Rch G dk k j := fun j => ⟨x.ok j, fun r => by
  induction r with
  | root _ => exact x.hk
  | @step i j g _ hg m d ih => exact x.cl i ih (by simp) g hg j m d⟩
theorem Wk.few {G : List Pr} {dk : Int → Bool} {k : Int} {l ws : List Int} (x : Wk G dk k l ws) (f : Forms G) (b : 0 ≤ k ∧ k < G.length) : l.length ≤ G.length := by
  have := nodup_le l (nums G.length) x.one fun j m => by
    have := (x.ok j m).bound f b
    exact mem_nums.mpr ⟨this.1, by omega⟩
  rw [nums_len] at this
  exact this
/-- .. between the options of f, the first i of which are gone through -/
structure Wf (G : List Pr) (dk : Int → Bool) (k f : Int) (os : List Int) (i : Nat) (l ws : List Int) : Prop where
  one : l.Nodup
  hk : k ∈ l
  ok : ∀ j ∈ l, Rch G dk k j
  wl : ∀ j ∈ ws, j ∈ l
  fl : f ∈ l
  cl : ∀ x ∈ l, x ∉ ws → x ≠ f → ∀ (g : Pr), G[x.toNat]? = some g → ∀ j ∈ g.1 ++ g.2, dk j = false → j ∈ l
  cf : ∀ j ∈ os.take i, dk j = false → j ∈ l
theorem Wf.skip {G : List Pr} {dk : Int → Bool} {k f : Int} {os : List Int} {i : Nat} {l ws : List Int} {j : Int} (x : Wf G dk k f os i l ws) (h : os[i]? = some j) (s : j ∈ l ∨ dk j = true) : Wf G dk k f os (i + 1) l ws :=
  ⟨x.one, x.hk, x.ok, x.wl, x.fl, x.cl, fun y m d => by
    rw [List.take_add_one, h] at m
    rcases List.mem_append.mp m with m | m
    · exact x.cf y m d
    · have e : y = j := by simpa using m
      subst e
      rcases s with s | s
      · exact s
      · rw [s] at d; cases d⟩
theorem Wf.more {G : List Pr} {dk : Int → Bool} {k f : Int} {g : Pr} {i : Nat} {l ws : List Int} {j : Int} (x : Wf G dk k f (g.1 ++ g.2) i l ws) (hg : G[f.toNat]? = some g) (h : (g.1 ++ g.2)[i]? = some j) (s : j ∉ l) (d : dk j = false) : Wf G dk k f (g.1 ++ g.2) (i + 1) (l ++ [j]) (ws ++ [j]) := by
  have up : ∀ y, y ∈ l → y ∈ l ++ [j] := fun y m => List.mem_append_left _ m
  refine ⟨?_, up _ x.hk, fun y m => ?_, fun y m => ?_, up _ x.fl, fun y m nw nf g' hg' z mz dz => ?_, fun y m dy => ?_⟩
  · rw [List.nodup_append]
    refine ⟨x.one, by simp, fun a ha b hb e => ?_⟩
    rw [List.mem_singleton] at hb
    subst hb; subst e
    exact s ha
  · rcases List.mem_append.mp m with m | m
    · exact x.ok y m
    · rw [List.mem_singleton.mp m]
      exact .step (x.ok f x.fl) hg (List.mem_of_getElem? h) d
  · rcases List.mem_append.mp m with m | m
    · exact up _ (x.wl y m)
    · exact List.mem_append_right _ m
  · rcases List.mem_append.mp m with m | m
    · exact up _ (x.cl y m (fun q => nw (List.mem_append_left _ q)) nf g' hg' z mz dz)
    · exact absurd (List.mem_append_right _ m) nw
  · rw [List.take_add_one, h] at m
    rcases List.mem_append.mp m with m | m
    · exact up _ (x.cf y m dy)
    · have e : y = j := by simpa using m
      subst e
      exact List.mem_append_right _ (List.mem_singleton.mpr rfl)
theorem Wf.done {G : List Pr} {dk : Int → Bool} {k f : Int} {g : Pr} {l ws : List Int} {n : Nat} (x : Wf G dk k f (g.1 ++ g.2) n l ws) (hn : (g.1 ++ g.2).length ≤ n) (hg : G[f.toNat]? = some g) : Wk G dk k l ws :=
  ⟨x.one, x.hk, x.ok, x.wl, fun y m nw g' hg' j mj d => by
    by_cases e : y = f
    · subst e
      rw [hg] at hg'
      injection hg' with hg'
      subst hg'
      exact x.cf j (by rw [List.take_of_length_le hn]; exact mj) d
    · exact x.cl y m nw e g' hg' j mj d⟩
theorem Wk.start {G : List Pr} {dk : Int → Bool} {k f : Int} {l ws os : List Int} (x : Wk G dk k l (ws ++ [f])) : Wf G dk k f os 0 l ws :=
  ⟨x.one, x.hk, x.ok, fun j m => x.wl j (List.mem_append_left _ m), x.wl f (List.mem_append_right _ (List.mem_singleton.mpr rfl)), fun y m nw nf => x.cl y m fun q => (List.mem_append.mp q).elim nw fun z => nf (List.mem_singleton.mp z), fun j m => nomatch m⟩
theorem Wf.few {G : List Pr} {dk : Int → Bool} {k f : Int} {os l ws : List Int} {i : Nat} (x : Wf G dk k f os i l ws) (F : Forms G) (b : 0 ≤ k ∧ k < G.length) : l.length ≤ G.length := by
  have := nodup_le l (nums G.length) x.one fun j m => by
    have := (x.ok j m).bound F b
    exact mem_nums.mpr ⟨this.1, by omega⟩
  rw [nums_len] at this
  exact this
theorem pureG_Yard_m_reached {P : Program} {w : World} {K : PySem.W.Frag} (FY : FYard K) (vs : List V) (H : Hp) (Q : VK) (E : XK) (h : gd_Yard_m_reached P w K vs H Q E) : t_Yard_m_reached P w K E { nx := fun _ H' => Q .non H', rt := Q } (start N_Yard_m_reached vs) H := by
  obtain ⟨F, G, hs, ts, k, dn, kvs, rfl, Y, k0, k1, few, hd, q⟩ := h
  unfold t_Yard_m_reached
  repeat walk_at "mst"
  refine Y.meth (by decide +kernel) (by decide +kernel) (by decide +kernel) (by decide +kernel) (by decide +kernel) ?_
  repeat walk_at "mst"
  refine use_check Y ⟨k0, k1⟩ ?_
  repeat walk_at "mst"
  refine ⟨dn, _, rfl, DGet.k (k := Sum.inl k) hd, ?_⟩
  repeat walk_at "mst"
  refine k_iteB (fun dk => ?_) (fun dk => ?_)
  · repeat walk_at "mst"
    refine ⟨by decide, fun p np => ?_⟩
    refine q p [] _ np (Evl.Ex.new np) upd_same .nil fun j => ⟨fun m => (nomatch m), fun r => ?_⟩
    exfalso
    have : dkey kvs k = false := by
      induction r with
      | root h => exact h
      | step _ _ _ _ ih => exact ih
    unfold dkey at this
    rw [dk] at this
    cases this
  have dk : dkey kvs k = false := dk
  repeat walk_at "mst"
  intro sp nsp
  have e1 := Evl.Ex.new (o := SetO w sp (fun _ => false) 0) nsp
  have s1 : upd H sp (SetO w sp (fun _ => false) 0) sp = some (SetO w sp (fun _ => false) 0) := upd_same
  generalize upd H sp (SetO w sp (fun _ => false) 0) = H1 at *
  repeat walk_at "mst"
  refine ⟨s1, ?_⟩
  have e2 : Ex H (upd H1 sp (SetO w sp (fun j => decide (j = k)) 1)) := Evl.Ex.mut e1 nsp
  have s2 : upd H1 sp (SetO w sp (fun j => decide (j = k)) 1) sp = some (SetO w sp (fun j => decide (j = k)) 1) := upd_same
  generalize upd H1 sp (SetO w sp (fun j => decide (j = k)) 1) = H2 at *
  repeat walk_at "mst"
  refine ⟨by show 1 ≤ sizeLine; decide, fun wp nwp => ?_⟩
  have e3 := Evl.Ex.new (o := HO.lst [V.int k]) nwp
  have s3 : upd H2 wp (HO.lst [V.int k]) wp = some (HO.lst (([k] : List Int).map V.int)) := upd_same
  generalize upd H2 wp (HO.lst [V.int k]) = H3 at *
  have e03 := e2.trans e3
  have nwp0 : H wp = none := Evl.fresh_back e2 nwp
  have dsw : sp ≠ wp := ne_of_none s2 nwp
  repeat walk_at "mst"
  refine k_while (fun m σ H' => ∃ (l ws : List Int) (S : Int → Bool) (x5 x6 : Option V), m = 2 * (G.length - l.length) + ws.length ∧ Wk G (dkey kvs) k l ws ∧ Ex H H' ∧ H' sp = some (SetO w sp S l.length) ∧ (∀ j, S j = true ↔ j ∈ l) ∧ H' wp = some (.lst (ws.map V.int)) ∧ ws.length ≤ 2 * l.length ∧
    σ = [some (.ref F.y), some (.int k), some (.ref dn), some (.ref sp), some (.ref wp), x5, x6]) (2 * (G.length - 1) + 1) ?_ ?_
  · refine ⟨[k], [k], fun j => decide (j = k), none, none, rfl, ⟨by simp, by simp, fun j m => by rw [List.mem_singleton.mp m]; exact .root dk, fun j m => m, fun i m n => absurd m n⟩, e03, e3 _ _ s2, fun j => by simp, s3, by show 1 ≤ 2; decide, rfl⟩
  · rintro m σ H4 ⟨l, ws, S, x5, x6, rfl, wk, e4, hsp, hS, hwp, wl, rfl⟩
    have lf := wk.few Y.G ⟨k0, k1⟩
    repeat walk_at "mst"
    refine tru_L (k_sq hwp) ?_
    rcases List.eq_nil_or_concat ws with rfl | ⟨ws', f, rfl⟩
    · rw [show (!(([] : List Int).map V.int).isEmpty) = false from rfl]
      repeat walk_at "mst"
      refine k_rSorted hsp (by omega) fun rs p asc mem len np => ?_
      refine q p rs _ (Evl.fresh_back e4 np) (e4.trans (Evl.Ex.new np)) upd_same asc fun j => ?_
      rw [mem, hS]
      exact wk.all j
    · rw [List.concat_eq_append] at *
      have fl := wk.wl f (List.mem_append_right _ (List.mem_singleton.mpr rfl))
      have fb := (wk.ok f fl).bound Y.G ⟨k0, k1⟩
      obtain ⟨fn, rfl⟩ : ∃ n : Nat, f = n := ⟨f.toNat, by omega⟩
      have hfn : fn < G.length := by omega
      have hg := List.getElem?_eq_getElem hfn
      generalize G[fn] = g at *
      obtain ⟨as1, as2⟩ := Y.G.asc fn g hg
      have l1 := as1.len
      have l2 := as2.len
      have tt : (!((ws' ++ [(fn : Int)]).map V.int).isEmpty) = true := by simp
      rw [tt]
      rw [List.map_append] at hwp
      repeat walk_at "mst"
      refine ⟨fun σ' H' => ∃ m', m' < 2 * (G.length - l.length) + (ws' ++ [(fn : Int)]).length ∧ ∃ (l ws : List Int) (S : Int → Bool) (x5 x6 : Option V), m' = 2 * (G.length - l.length) + ws.length ∧ Wk G (dkey kvs) k l ws ∧ Ex H H' ∧ H' sp = some (SetO w sp S l.length) ∧ (∀ j, S j = true ↔ j ∈ l) ∧ H' wp = some (.lst (ws.map V.int)) ∧ ws.length ≤ 2 * l.length ∧
        σ' = [some (.ref F.y), some (.int k), some (.ref dn), some (.ref sp), some (.ref wp), x5, x6], fun σ' H' h => h, ?_⟩
      repeat walk_at "mst"
      refine k_rPop hwp ?_
      have e5 : Ex H (upd H4 wp (HO.lst (ws'.map V.int))) := Evl.Ex.mut e4 nwp0
      have s5 : upd H4 wp (HO.lst (ws'.map V.int)) wp = some (HO.lst (ws'.map V.int)) := upd_same
      have hsp5 : upd H4 wp (HO.lst (ws'.map V.int)) sp = some (SetO w sp S l.length) := by rw [upd_ne dsw]; exact hsp
      generalize upd H4 wp (HO.lst (ws'.map V.int)) = H5 at *
      have Y5 := Y.ex e5
      obtain ⟨xs, hl, rows⟩ := Y5.ls
      obtain ⟨ys, hr, rowsR⟩ := Y5.rs
      have hi := Y5.ins
      obtain ⟨a1, ha1, hg1⟩ := rows.2 fn g.1 (by rw [List.getElem?_map, hg]; rfl)
      obtain ⟨a2, ha2, hg2⟩ := rowsR.2 fn g.2 (by rw [List.getElem?_map, hg]; rfl)
      repeat walk_at "mst"
      refine k_ixL (k_sq hl) (atI_nat ha1) ?_
      repeat walk_at "mst"
      refine k_ixL (k_sq hr) (atI_nat ha2) ?_
      refine k_rCatA (k_st hg1) (k_st hg2) (by rw [List.length_map, List.length_map]; exact Nat.le_trans (show _ ≤ 2000 by omega) (by decide)) fun p H6 e6 hp => ?_
      rw [← List.map_append] at hp
      have wf0 : Wf G (dkey kvs) k fn (g.1 ++ g.2) 0 l ws' := wk.start
      refine ⟨p, rfl, ⟨_, hp⟩, forK_tup (xs := (g.1 ++ g.2).map V.int) (fun i σ' H' => ∃ (l' ws : List Int) (S : Int → Bool) (x6 : Option V), Wf G (dkey kvs) k fn (g.1 ++ g.2) i l' ws ∧ 2 * (G.length - l'.length) + ws.length ≤ 2 * (G.length - l.length) + ws'.length ∧ Ex H H' ∧ SqT K H' p ((g.1 ++ g.2).map V.int) ∧ H' sp = some (SetO w sp S l'.length) ∧ (∀ j, S j = true ↔ j ∈ l') ∧ H' wp = some (.lst (ws.map V.int)) ∧ ws.length ≤ 2 * l'.length ∧
        σ' = [some (.ref F.y), some (.int k), some (.ref dn), some (.ref sp), some (.ref wp), some (.int fn), x6]) ⟨l, ws', S, x6, wf0, Nat.le_refl _, e5.trans e6, hp, e6 _ _ hsp5, hS, e6 _ _ s5, by rw [List.length_append] at wl; omega, rfl⟩ ?_ ?_ ?_⟩
      · rintro i σ H' _ ⟨_, _, _, _, _, _, _, h, _⟩; exact h
      · rintro i x σ H7 hx ⟨l', ws, S', y6, wf, ms, e7, hp7, hsp7, hS7, hwp7, wl7, rfl⟩
        obtain ⟨j, hj, rfl⟩ := get_int hx
        have lf' := wf.few Y.G ⟨k0, k1⟩
        have hd7 := e7 _ _ hd
        repeat walk_at "mst"
        refine k_sNot hsp7 ?_
        cases sj : S' j
        · repeat walk_at "mst"
          refine ⟨dn, _, rfl, DGet.k (k := Sum.inl j) hd7, ?_⟩
          cases dj : (valV kvs (Sum.inl j)).isSome
          · have dj : dkey kvs j = false := dj
            have nj : j ∉ l' := fun m => by rw [(hS7 j).mpr m] at sj; cases sj
            have wf2 := wf.more hg hj nj dj
            have lf2 := wf2.few Y.G ⟨k0, k1⟩
            rw [List.length_append, List.length_singleton] at lf2
            repeat walk_at "mst"
            refine ⟨⟨sp, S', _, rfl, hsp7⟩, ?_⟩
            repeat walk_at "mst"
            refine k_rSAdd hsp7 (by omega) sj ?_
            have k8 : ∀ c o, H7 c = some o → c ≠ sp → upd H7 sp (SetO w sp (fun i => S' i || decide (i = j)) (l'.length + 1)) c = some o := fun c o z y => (upd_ne y).trans z
            have s8 : upd H7 sp (SetO w sp (fun i => S' i || decide (i = j)) (l'.length + 1)) sp = some (SetO w sp (fun i => S' i || decide (i = j)) (l'.length + 1)) := upd_same
            have e8 : Ex H (upd H7 sp (SetO w sp (fun i => S' i || decide (i = j)) (l'.length + 1))) := Evl.Ex.mut e7 nsp
            generalize upd H7 sp (SetO w sp (fun i => S' i || decide (i = j)) (l'.length + 1)) = H8 at *
            have hwp8 := k8 _ _ hwp7 dsw.symm
            have hp8 : SqT K H8 p ((g.1 ++ g.2).map V.int) := by
              rcases hp7 with (h | ⟨o, h⟩) | h
              · exact Or.inl (Or.inl (k8 _ _ h (ne_of h hsp7 (by intro y; cases y))))
              · exact Or.inl (Or.inr ⟨o, k8 _ _ h (ne_of h hsp7 (by intro y; cases y))⟩)
              · exact Or.inr h
            repeat walk_at "mst"
            · rw [List.length_map]; exact Nat.lt_of_lt_of_le (show _ < 2000 by omega) (by decide)
            have k9 : ∀ c o, H8 c = some o → c ≠ wp → upd H8 wp (HO.lst (ws.map V.int ++ [V.int j])) c = some o := fun c o z y => (upd_ne y).trans z
            have s9 : upd H8 wp (HO.lst (ws.map V.int ++ [V.int j])) wp = some (HO.lst ((ws ++ [j]).map V.int)) := by rw [upd_same]; simp
            have e9 : Ex H (upd H8 wp (HO.lst (ws.map V.int ++ [V.int j]))) := Evl.Ex.mut e8 nwp0
            generalize upd H8 wp (HO.lst (ws.map V.int ++ [V.int j])) = H9 at *
            have hp9 : SqT K H9 p ((g.1 ++ g.2).map V.int) := by
              rcases hp8 with (h | ⟨o, h⟩) | h
              · exact Or.inl (Or.inl (k9 _ _ h (ne_of h hwp8 (by intro y; cases y))))
              · exact Or.inl (Or.inr ⟨o, k9 _ _ h (ne_of h hwp8 (by intro y; cases y))⟩)
              · exact Or.inr h
            refine ⟨l' ++ [j], ws ++ [j], fun i => S' i || decide (i = j), _, wf2, ?_, e9, hp9, ?_, fun i => ?_, s9, ?_, rfl⟩
            · rw [List.length_append, List.length_append, List.length_singleton]; omega
            · rw [List.length_append, List.length_singleton]; exact k9 _ _ s8 dsw
            · rw [Bool.or_eq_true, decide_eq_true_eq, hS7, List.mem_append, List.mem_singleton]
            · rw [List.length_append, List.length_append, List.length_singleton]; omega
          · repeat walk_at "mst"
            exact ⟨l', ws, S', _, wf.skip hj (Or.inr dj), ms, e7, hp7, hsp7, hS7, hwp7, wl7, rfl⟩
        · repeat walk_at "mst"
          exact ⟨l', ws, S', _, wf.skip hj (Or.inl ((hS7 j).mp sj)), ms, e7, hp7, hsp7, hS7, hwp7, wl7, rfl⟩
      · rintro σ H7 ⟨l', ws, S', y6, wf, ms, e7, hp7, hsp7, hS7, hwp7, wl7, rfl⟩
        exact ⟨_, by rw [List.length_append, List.length_singleton]; omega, l', ws, S', _, _, rfl, wf.done (by rw [List.length_map]; exact Nat.le_refl _) hg, e7, hsp7, hS7, hwp7, wl7, rfl⟩
theorem use_reached {P : Program} {w : World} {K : PySem.W.Frag} {H : Hp} {Q : VK} {E : XK} {F : Foot} {G : List Pr} {hs : List Int} {ts : List (Key × V)} {k : Int} {dn : Addr} {kvs : List (Key × V)} (Y : YardAt P w K H F G hs ts) (b : 0 ≤ k ∧ k < G.length) (few : G.length ≤ 900) (hd : H dn = some (.dK kvs))
    (q : ∀ (p : Addr) (rs : List Int) (H' : Hp), H p = none → Ex H H' → H' p = some (.lst (rs.map V.int)) → rs.Pairwise (· < ·) → (∀ j, j ∈ rs ↔ Rch G (dkey kvs) k j) → Q (.ref p) H') : sp_Yard_m_reached P w K (.ref F.y :: ([.int k, .ref dn] ++ [])) H Q E := Or.inl ⟨F, G, hs, ts, k, dn, kvs, rfl, Y, b.1, b.2, few, hd, q⟩
theorem lenB_Yard_m_reached {P : Program} {w : World} {K : PySem.W.Frag} {vs : List V} {H : Hp} {Q : VK} {E : XK} (h : bd_Yard_m_reached P w K vs H Q E) : vs.length = 3 := by
  obtain ⟨_, _, _, _, _, _, rfl, _⟩ := h; rfl
theorem len_Yard_m_reached {P : Program} {w : World} {K : PySem.W.Frag} {vs : List V} {H : Hp} {Q : VK} {E : XK} (h : sp_Yard_m_reached P w K vs H Q E) : vs.length = 3 := h.elim lenG_Yard_m_reached lenB_Yard_m_reached
theorem pureB_Yard_m_reached {P : Program} {w : World} {K : PySem.W.Frag} (FY : FYard K) (vs : List V) (H : Hp) (Q : VK) (E : XK) (h : bd_Yard_m_reached P w K vs H Q E) : t_Yard_m_reached P w K E { nx := fun _ H' => Q .non H', rt := Q } (start N_Yard_m_reached vs) H := by
  obtain ⟨F, G, hs, ts, g, x, rfl, Y, b, q⟩ := h
  unfold t_Yard_m_reached
  repeat walk_at "mst"
  refine Y.meth (by decide +kernel) (by decide +kernel) (by decide +kernel) (by decide +kernel) (by decide +kernel) ?_
  repeat walk_at "mst"
  exact useB_check Y b q
theorem pure_Yard_m_reached {P : Program} {w : World} {K : PySem.W.Frag} (FY : FYard K) (vs : List V) (H : Hp) (Q : VK) (E : XK) (h : sp_Yard_m_reached P w K vs H Q E) : t_Yard_m_reached P w K E { nx := fun _ H' => Q .non H', rt := Q } (start N_Yard_m_reached vs) H := h.elim (pureG_Yard_m_reached FY vs H Q E) (pureB_Yard_m_reached FY vs H Q E)
theorem useB_reached {P : Program} {w : World} {K : PySem.W.Frag} {H : Hp} {Q : VK} {E : XK} {F : Foot} {G : List Pr} {hs : List Int} {ts : List (Key × V)} {g : Int} {x : V} (Y : YardAt P w K H F G hs ts) (b : ¬ (0 ≤ g ∧ g < G.length)) (q : ∀ H', Ex H H' → E (.ref (He.ga K "Unknown")) none H') : sp_Yard_m_reached P w K (.ref F.y :: ([.int g, x] ++ [])) H Q E := Or.inr ⟨F, G, hs, ts, g, x, rfl, Y, b, q⟩
def sp_Yard_p_kept (P : Program) (w : World) (K : PySem.W.Frag) : Sp := fun vs H Q _ => ∃ (F : Foot) (G : List Pr) (hs : List Int) (ts : List (Key × V)) (pl pr : Addr) (as bs : List Int), vs = [.ref F.y, .ref pl, .ref pr] ∧ YardAt P w K H F G hs ts ∧
  H pl = some (.tup (as.map V.int)) ∧ H pr = some (.tup (bs.map V.int)) ∧ Asc G.length as ∧ Asc G.length bs ∧ G.length ≤ 1000 ∧
  ∀ (i : Int) (G' : List Pr) (hs' : List Int) (H' : Hp), Gr F H H' → YardAt P w K H' F G' hs' ts → Put G (as, bs) i G' → Hgt G hs (as, bs) G' hs' → Q (.int i) H'
abbrev N_Yard_p_kept : List Str := ["self", "lefts", "rights", "options", "option"]
def t_Yard_p_kept (P : Program) (w : World) (K : PySem.W.Frag) (E : XK) : TS := (tSeq (tAsg (tTup (tCons (tVar 1) (tCons (tVar 2) tNil))) (gName 3)) (Evl.tCut (tIfS (tB (tNNot P w (tVar 3) (tFld K (tVar 0) "_numbers"))) (tSeq (sNPut P w (tFld K (tVar 0) "_numbers") (tVar 3) (tCB (rLenQ K) (tCons (tFld K (tVar 0) "_lefts") tNil))) (tSeq (tDrop (tBM K "list" rAppend (tFld K (tVar 0) "_heights") (tCons (tOp rAddI (tC (.int 1)) (tCB (rMax K) (tCons (tLc (iTup K (tOp (rCatA K) (tVar 1) (tVar 2))) (gName 4) tYes (tOp (rIxL K) (tFld K (tVar 0) "_heights") (tVar 4)) [4]) tNil))) tNil))) (tSeq (tDrop (tBM K "list" rAppend (tFld K (tVar 0) "_lefts") (tCons (tVar 1) tNil))) (tDrop (tBM K "list" rAppend (tFld K (tVar 0) "_rights") (tCons (tVar 2) tNil)))))) tNext) (tRet (tNGet P w (tFld K (tVar 0) "_numbers") (tVar 3)))))
theorem map_more' (ds : List Int) (z : Int) : ds.map V.int ++ [V.int z] = (ds ++ [z]).map V.int := by simp
theorem len_Yard_p_kept {P : Program} {w : World} {K : PySem.W.Frag} {vs : List V} {H : Hp} {Q : VK} {E : XK} (h : sp_Yard_p_kept P w K vs H Q E) : vs.length = 3 := by
  obtain ⟨_, _, _, _, _, _, _, _, rfl, _⟩ := h; rfl
theorem pure_Yard_p_kept {P : Program} {w : World} {K : PySem.W.Frag} (FY : FYard K) (vs : List V) (H : Hp) (Q : VK) (E : XK) (h : sp_Yard_p_kept P w K vs H Q E) : t_Yard_p_kept P w K E { nx := fun _ H' => Q .non H', rt := Q } (start N_Yard_p_kept vs) H := by
  obtain ⟨F, G, hs, ts, pl, pr, as, bs, rfl, Y, hpl, hpr, aa, ab, big, q⟩ := h
  unfold t_Yard_p_kept
  repeat walk_at "mst"
  refine ⟨by show 2 ≤ sizeLine; decide, fun o no => ?_⟩
  have e1 := Evl.Ex.new (o := HO.tup [V.ref pl, V.ref pr]) no
  have s1 : upd H o (HO.tup [V.ref pl, V.ref pr]) o = some (HO.tup [V.ref pl, V.ref pr]) := upd_same
  generalize upd H o (HO.tup [V.ref pl, V.ref pr]) = H1 at *
  have Y1 := Y.ex e1
  have hpl1 := e1 _ _ hpl
  have hpr1 := e1 _ _ hpr
  have kk : PrT H1 o (as, bs) := ⟨pl, pr, s1, hpl1, hpr1⟩
  have hi := Y1.ins
  obtain ⟨xs, hl, rows⟩ := Y1.ls
  obtain ⟨ys, hr, rowsR⟩ := Y1.rs
  obtain ⟨hh, hlen⟩ := Y1.hs
  obtain ⟨kvs, hn, keys, ents⟩ := Y1.ns
  have lk := ents.look Y1.G.one (p := (as, bs))
  repeat walk_at "mst"
  refine k_cut (fun σ' H' => ∃ (i : Int) (G' : List Pr) (hs' : List Int) (x : Option V), Gr F H H' ∧ YardAt P w K H' F G' hs' ts ∧ PrT H' o (as, bs) ∧ Put G (as, bs) i G' ∧ Hgt G hs (as, bs) G' hs' ∧ σ' = [some (.ref F.y), some (.ref pl), some (.ref pr), some (.ref o), x]) ?_ ?_
  · repeat walk_at "mst"
    refine ⟨F.n, o, kvs, (as, bs), rfl, rfl, hn, keys, kk, ?_⟩
    repeat walk_at "mst"
    by_cases m : (as, bs) ∈ G
    · obtain ⟨k, hk⟩ := List.mem_iff_getElem?.mp m
      rw [if_neg (by rw [lk.2 k hk]; simp)]
      repeat walk_at "mst"
      exact ⟨(k : Int), G, hs, none, Gr.of e1, Y1, kk, Or.inl ⟨k, rfl, hk, rfl⟩, Or.inl ⟨m, rfl⟩, rfl⟩
    · rw [if_pos (by rw [lk.1 m]; rfl)]
      have xl : (xs.length : Int) = (G.length : Int) := by rw [rows.1, List.length_map]
      have some1 : 0 < (as ++ bs).length := by
        rw [List.length_append]
        rcases as with _ | ⟨x, as⟩
        · rcases bs with _ | ⟨y, bs⟩
          · exact absurd (List.mem_of_getElem? Y.G.zero) m
          · simp
        · simp only [List.length_cons]; omega
      have la := aa.len
      have lb := ab.len
      have lab : (as.map V.int).length + (bs.map V.int).length ≤ sizeLine := by
        rw [List.length_map, List.length_map]; exact Nat.le_trans (show _ ≤ 2000 by omega) (by decide)
      repeat walk_at "mst"
      refine ⟨F.n, o, kvs, (as, bs), _, rfl, rfl, rfl, hn, keys, kk, lk.1 m, by rw [ents.1]; exact Nat.lt_of_le_of_lt big (by decide), ?_⟩
      rw [xl]
      have b2 : ∀ c u, H1 c = some u → c ≠ F.n → upd H1 F.n (NdO P w F.n (kvs ++ [((as, bs), o, (G.length : Int))])) c = some u := fun c u z y => (upd_ne y).trans z
      have s2 : upd H1 F.n (NdO P w F.n (kvs ++ [((as, bs), o, (G.length : Int))])) F.n = some (NdO P w F.n (kvs ++ [((as, bs), o, (G.length : Int))])) := upd_same
      generalize upd H1 F.n (NdO P w F.n (kvs ++ [((as, bs), o, (G.length : Int))])) = H2 at *
      have t2 : ∀ c zs, H1 c = some (.tup zs) → H2 c = some (.tup zs) := fun c zs z => b2 _ _ z (ne_of z hn (by intro y; cases y))
      have hi2 := b2 _ _ hi (ne_of hi hn (by intro y; cases y))
      have hh2 := b2 _ _ hh (ne_of hh hn (by intro y; cases y))
      have hl2 := b2 _ _ hl (ne_of hl hn (by intro y; cases y))
      have hr2 := b2 _ _ hr (ne_of hr hn (by intro y; cases y))
      have hpl2 := t2 _ _ hpl1
      have hpr2 := t2 _ _ hpr1
      repeat walk_at "mst"
      refine k_rCatA (k_st hpl2) (k_st hpr2) lab fun p H3 e3 hp => ?_
      refine ⟨p, rfl, ⟨_, hp⟩, lcR_tup (K := K) (onI (hat hs)) hp (by rw [List.length_append]; exact Nat.lt_of_le_of_lt (show _ ≤ 2000 by rw [List.length_map, List.length_map]; omega) (by decide)) (fun x hx => ?_) (fun D H4 nD e4 hD => ?_)⟩
      · rw [← List.map_append] at hx
        obtain ⟨k, hk, rfl⟩ := List.mem_map.mp hx
        have bk : 0 ≤ k ∧ k < G.length := by
          rcases List.mem_append.mp hk with h | h
          · exact aa.2 k h
          · exact ab.2 k h
        refine turn_map fun H' e R r => ?_
        have hi' := e _ _ (e3 _ _ hi2)
        have hh' := e _ _ (e3 _ _ hh2)
        repeat walk_at "mst"
        exact k_ixL (k_sq hh') (hat_at hlen bk.1 bk.2) r
      · rw [← List.map_append, onI_map] at hD
        have e24 := e3.trans e4
        have hi4 := e24 _ _ hi2
        have hh4 := e24 _ _ hh2
        have hl4 := e24 _ _ hl2
        have hr4 := e24 _ _ hr2
        have hn4 := e24 _ _ s2
        repeat walk_at "mst"
        refine k_rMaxL (k_sq hD) (by rw [List.length_map]; exact some1) fun mx mm ml => ?_
        repeat walk_at "mst"
        · exact k_sizeL (by rw [hlen]; omega)
        have b5 : ∀ c u, H4 c = some u → c ≠ F.h → upd H4 F.h (HO.lst (hs.map V.int ++ [V.int (1 + mx)])) c = some u := fun c u z y => (upd_ne y).trans z
        have s5 : upd H4 F.h (HO.lst (hs.map V.int ++ [V.int (1 + mx)])) F.h = some (HO.lst ((hs ++ [1 + mx]).map V.int)) := by rw [upd_same, map_more']
        generalize upd H4 F.h (HO.lst (hs.map V.int ++ [V.int (1 + mx)])) = H5 at *
        have hi5 := b5 _ _ hi4 (ne_of hi4 hh4 (by intro y; cases y))
        have hl5 := b5 _ _ hl4 Y.ne.2.1
        have hr5 := b5 _ _ hr4 Y.ne.2.2
        have hn5 := b5 _ _ hn4 (ne_of hn4 hh4 (by intro y; cases y))
        have t5 : ∀ c zs, H4 c = some (.tup zs) → H5 c = some (.tup zs) := fun c zs z => b5 _ _ z (ne_of z hh4 (by intro y; cases y))
        have xll : xs.length < sizeLine := by
          have : xs.length = G.length := by rw [rows.1, List.length_map]
          rw [this]; exact Nat.lt_of_le_of_lt big (by decide)
        have yll : ys.length < sizeLine := by
          have : ys.length = G.length := by rw [rowsR.1, List.length_map]
          rw [this]; exact Nat.lt_of_le_of_lt big (by decide)
        repeat walk_at "mst"
        · exact xll
        have b6 : ∀ c u, H5 c = some u → c ≠ F.l → upd H5 F.l (HO.lst (xs ++ [V.ref pl])) c = some u := fun c u z y => (upd_ne y).trans z
        have s6 : upd H5 F.l (HO.lst (xs ++ [V.ref pl])) F.l = some (HO.lst (xs ++ [V.ref pl])) := upd_same
        generalize upd H5 F.l (HO.lst (xs ++ [V.ref pl])) = H6 at *
        have hi6 := b6 _ _ hi5 (ne_of hi5 hl5 (by intro y; cases y))
        have hr6 := b6 _ _ hr5 Y.ne.1.symm
        have hn6 := b6 _ _ hn5 (ne_of hn5 hl5 (by intro y; cases y))
        have hh6 := b6 _ _ s5 Y.ne.2.1.symm
        have t6 : ∀ c zs, H5 c = some (.tup zs) → H6 c = some (.tup zs) := fun c zs z => b6 _ _ z (ne_of z hl5 (by intro y; cases y))
        repeat walk_at "mst"
        · exact yll
        have b7 : ∀ c u, H6 c = some u → c ≠ F.r → upd H6 F.r (HO.lst (ys ++ [V.ref pr])) c = some u := fun c u z y => (upd_ne y).trans z
        have s7 : upd H6 F.r (HO.lst (ys ++ [V.ref pr])) F.r = some (HO.lst (ys ++ [V.ref pr])) := upd_same
        generalize upd H6 F.r (HO.lst (ys ++ [V.ref pr])) = H7 at *
        have t7 : ∀ c zs, H1 c = some (.tup zs) → H7 c = some (.tup zs) := fun c zs z => b7 _ _ (t6 _ _ (t5 _ _ (e24 _ _ (t2 _ _ z)))) (ne_of (t6 _ _ (t5 _ _ (e24 _ _ (t2 _ _ z)))) hr6 (by intro y; cases y))
        have pt : Put G (as, bs) (G.length : Int) (G ++ [(as, bs)]) := Or.inr ⟨m, rfl, rfl⟩
        have off7 : ∀ c u, H1 c = some u → Off F c → H7 c = some u := fun c u z f => b7 _ _ (b6 _ _ (b5 _ _ (e24 _ _ (b2 _ _ z f.2.2.2.1)) f.2.2.1) f.1) f.2.1
        have tt := Y1.ts
        have ft : F.t ≠ F.l ∧ F.t ≠ F.r ∧ F.t ≠ F.h ∧ F.t ≠ F.n := ⟨ne_of tt hl (by intro y; cases y), ne_of tt hr (by intro y; cases y), ne_of tt hh (by intro y; cases y), ne_of tt hn (by intro y; cases y)⟩
        have tt7 : H7 F.t = some (.dK ts) := b7 _ _ (b6 _ _ (b5 _ _ (e24 _ _ (b2 _ _ tt ft.2.2.2)) ft.2.2.1) ft.1) ft.2.1
        have hh7 := b7 _ _ hh6 Y.ne.2.2.symm
        have hl7 := b7 _ _ s6 Y.ne.1
        have hn7 := b7 _ _ hn6 (ne_of hn6 hr6 (by intro y; cases y))
        have hi7 := b7 _ _ hi6 (ne_of hi6 hr6 (by intro y; cases y))
        refine ⟨(G.length : Int), G ++ [(as, bs)], hs ++ [1 + mx], none, fun c u z f => off7 c u (e1 c u z) f, ⟨hi7, ⟨_, hl7, ?_⟩, ⟨_, s7, ?_⟩, ⟨hh7, by rw [List.length_append, List.length_append, hlen]; rfl⟩, ⟨_, hn7, ?_, ents.snoc (as, bs) o⟩, tt7, Y.ne, Y.ht.snoc hlen Y.G aa ab (Or.inr ⟨mx, mm, ml, rfl⟩), Y.G.put pt aa ab⟩, kk.ex t7, pt, Or.inr ⟨m, mx, rfl, mm, ml⟩, rfl⟩
        · rw [List.map_append]
          exact (rows.ex t7).snoc (t7 _ _ hpl1)
        · rw [List.map_append]
          exact (rowsR.ex t7).snoc (t7 _ _ hpr1)
        · intro x hx
          rcases List.mem_append.mp hx with h | h
          · exact (keys x h).ex t7
          · rw [List.mem_singleton] at h
            subst h
            exact kk.ex t7
  · rintro σ' H' ⟨i, G', hs', x, gr, Y', kk', pt, hg, rfl⟩
    have hi := Y'.ins
    obtain ⟨kvs', hn', keys', ents'⟩ := Y'.ns
    obtain ⟨k, ei, hk⟩ := pt.get
    repeat walk_at "mst"
    refine ⟨F.n, o, kvs', (as, bs), (k : Int), rfl, rfl, hn', keys', kk', (ents'.look Y'.G.one).2 k hk, ?_⟩
    rw [← ei]
    exact q i G' hs' H' gr Y' pt hg
def sp_Yard_p_turn (P : Program) (w : World) (K : PySem.W.Frag) : Sp := fun vs H Q _ => ∃ (F : Foot) (G : List Pr) (hs : List Int) (ts : List (Key × V)) (f : Nat) (g : Pr), vs = [.ref F.y, .int f] ∧ YardAt P w K H F G hs ts ∧ TOk G ts ∧ LenOk G ts ∧ G[f]? = some g ∧ (∀ o ∈ g.1 ++ g.2, dkey ts o = true) ∧ G.length ≤ 900 ∧
  ∀ (G' : List Pr) (hs' : List Int) (ts' : List (Key × V)) (t : Int) (H' : Hp), Gr F H H' → YardAt P w K H' F G' hs' ts' → (∀ (i : Nat) (g : Pr), G[i]? = some g → G'[i]? = some g) → TOk G' ts' → LenOk G' ts' → gr ts' f t → (∃ p, Put G p t G') → (∀ i, dkey ts i = true → dkey ts' i = true) → Phi G' ts' ≤ Phi G ts → Q .non H'
abbrev N_Yard_p_turn : List Str := ["self", "game", "lefts", "option", "rights", "turned"]
def t_Yard_p_turn (P : Program) (w : World) (K : PySem.W.Frag) (E : XK) : TS := (tSeq (tAsg (tLc (iTup K (tOp (rIxL K) (tFld K (tVar 0) "_rights") (tVar 1))) (gName 3) tYes (tDGet (tFld K (tVar 0) "_turned") (tVar 3)) [3]) (gName 2)) (tSeq (tAsg (tLc (iTup K (tOp (rIxL K) (tFld K (tVar 0) "_lefts") (tVar 1))) (gName 3) tYes (tDGet (tFld K (tVar 0) "_turned") (tVar 3)) [3]) (gName 4)) (tSeq (tAsg (tMeth (He.ga K "Yard") "_kept" (sp_Yard_p_kept P w K) [] E0 (tVar 0) (tCons (tCB (rTupL K) (tCons (tCB (rSortedI K) (tCons (tVar 2) tNil)) tNil)) (tCons (tCB (rTupL K) (tCons (tCB (rSortedI K) (tCons (tVar 4) tNil)) tNil)) tNil))) (gName 5)) (tSeq (sDPut (tFld K (tVar 0) "_turned") (tVar 1) (tVar 5)) (sDPut (tFld K (tVar 0) "_turned") (tVar 5) (tVar 1))))))
theorem len_Yard_p_turn {P : Program} {w : World} {K : PySem.W.Frag} {vs : List V} {H : Hp} {Q : VK} {E : XK} (h : sp_Yard_p_turn P w K vs H Q E) : vs.length = 2 := by
  obtain ⟨_, _, _, _, _, _, rfl, _⟩ := h; rfl
theorem pure_Yard_p_turn {P : Program} {w : World} {K : PySem.W.Frag} (FY : FYard K) (vs : List V) (H : Hp) (Q : VK) (E : XK) (h : sp_Yard_p_turn P w K vs H Q E) : t_Yard_p_turn P w K E { nx := fun _ H' => Q .non H', rt := Q } (start N_Yard_p_turn vs) H := by
  obtain ⟨F, G, hs, ts, f, g, rfl, Y, T, LN, hg, opt, few, q⟩ := h
  unfold t_Yard_p_turn
  have fl : f < G.length := (List.getElem?_eq_some_iff.mp hg).1
  obtain ⟨as1, as2⟩ := Y.G.asc f g hg
  have len1 := as1.len
  have len2 := as2.len
  obtain ⟨xs, hl, rows⟩ := Y.ls
  obtain ⟨ys, hr, rowsR⟩ := Y.rs
  have hi := Y.ins
  have ht := Y.ts
  obtain ⟨a1, ha1, hg1⟩ := rows.2 f g.1 (by rw [List.getElem?_map, hg]; rfl)
  obtain ⟨a2, ha2, hg2⟩ := rowsR.2 f g.2 (by rw [List.getElem?_map, hg]; rfl)
  have inj : ∀ x x' y, gr ts x y → gr ts x' y → x = x' := fun x x' y r s => Bis.nj Y.G T.bis T.bis r s
  have nd : ∀ l : List Int, l.Pairwise (· < ·) → l.Nodup := fun l h => h.imp fun h => Int.ne_of_lt h
  obtain ⟨ls, eL, iL, nL, lL⟩ := tv_list T.ns inj g.2 (nd _ as2.1) fun o m => opt o (List.mem_append_right _ m)
  obtain ⟨rs, eR, iR, nR, lR⟩ := tv_list T.ns inj g.1 (nd _ as1.1) fun o m => opt o (List.mem_append_left _ m)
  have turn : ∀ l : List Int, (∀ o ∈ l, dkey ts o = true) → ∀ o ∈ l, ∃ v, valV ts (Sum.inl o) = some v := fun l h o m => by
    obtain ⟨j, r⟩ := T.ns o (h o m)
    exact ⟨_, r⟩
  repeat walk_at "mst"
  refine k_ixL (k_sq hr) (atI_nat ha2) ?_
  refine ⟨a2, rfl, ⟨_, k_st hg2⟩, lcR_tup (K := K) (tvF ts) (k_st hg2) (by rw [List.length_map]; exact Nat.lt_of_le_of_lt (show _ ≤ 1000 by omega) (by decide)) (fun x hx => ?_) fun p1 H1 n1 e1 h1 => ?_⟩
  · obtain ⟨z, mz, rfl⟩ := List.mem_map.mp hx
    obtain ⟨v, hv⟩ := turn g.2 (fun o m => opt o (List.mem_append_right _ m)) z mz
    have ev : tvF ts (V.int z) = some v := hv
    rw [ev]
    refine turn_map fun H' e R r => ?_
    have ht' := e _ _ ht
    have hi' := e _ _ hi
    repeat walk_at "mst"
    refine ⟨F.t, v, rfl, by rw [← hv]; exact DGet.k (k := Sum.inl z) ht', r⟩
  rw [eL] at h1
  have Y1 := Y.ex e1
  have hl1 := e1 _ _ hl
  have hi1 := e1 _ _ hi
  have hg11 := e1 _ _ hg1
  have ht1 := e1 _ _ ht
  repeat walk_at "mst"
  refine k_ixL (k_sq hl1) (atI_nat ha1) ?_
  refine ⟨a1, rfl, ⟨_, k_st hg11⟩, lcR_tup (K := K) (tvF ts) (k_st hg11) (by rw [List.length_map]; exact Nat.lt_of_le_of_lt (show _ ≤ 1000 by omega) (by decide)) (fun x hx => ?_) fun p2 H2 n2 e2 h2 => ?_⟩
  · obtain ⟨z, mz, rfl⟩ := List.mem_map.mp hx
    obtain ⟨v, hv⟩ := turn g.1 (fun o m => opt o (List.mem_append_left _ m)) z mz
    have ev : tvF ts (V.int z) = some v := hv
    rw [ev]
    refine turn_map fun H' e R r => ?_
    have ht' := e _ _ ht1
    have hi' := e _ _ hi1
    repeat walk_at "mst"
    refine ⟨F.t, v, rfl, by rw [← hv]; exact DGet.k (k := Sum.inl z) ht', r⟩
  rw [eR] at h2
  have e02 := e1.trans e2
  have h12 := e2 _ _ h1
  have Y2 := Y.ex e02
  repeat walk_at "mst"
  refine Y2.meth (by decide +kernel) (by decide +kernel) (by decide +kernel) (by decide +kernel) (by decide +kernel) ?_
  repeat walk_at "mst"
  refine ⟨p1, ls, rfl, k_sq h12, fun ls' p3 pm1 le1 n3 => ?_⟩
  have e3 := Evl.Ex.new (o := HO.lst (ls'.map V.int)) n3
  have s3 : upd H2 p3 (HO.lst (ls'.map V.int)) p3 = some (HO.lst (ls'.map V.int)) := upd_same
  generalize upd H2 p3 (HO.lst (ls'.map V.int)) = H3 at *
  have h23 := e3 _ _ h2
  repeat walk_at "mst"
  refine fun p4 n4 => ?_
  have e4 := Evl.Ex.new (o := HO.tup (ls'.map V.int)) n4
  have s4 : upd H3 p4 (HO.tup (ls'.map V.int)) p4 = some (HO.tup (ls'.map V.int)) := upd_same
  generalize upd H3 p4 (HO.tup (ls'.map V.int)) = H4 at *
  have h24 := e4 _ _ h23
  repeat walk_at "mst"
  refine ⟨p2, rs, rfl, k_sq h24, fun rs' p5 pm2 le2 n5 => ?_⟩
  have e5 := Evl.Ex.new (o := HO.lst (rs'.map V.int)) n5
  have s5 : upd H4 p5 (HO.lst (rs'.map V.int)) p5 = some (HO.lst (rs'.map V.int)) := upd_same
  generalize upd H4 p5 (HO.lst (rs'.map V.int)) = H5 at *
  repeat walk_at "mst"
  refine fun p6 n6 => ?_
  have e6 := Evl.Ex.new (o := HO.tup (rs'.map V.int)) n6
  have s6 : upd H5 p6 (HO.tup (rs'.map V.int)) p6 = some (HO.tup (rs'.map V.int)) := upd_same
  generalize upd H5 p6 (HO.tup (rs'.map V.int)) = H6 at *
  have e06 := e02.trans (e3.trans (e4.trans (e5.trans e6)))
  have bnd : ∀ (l l' : List Int), Img (gr ts) l l' → ∀ x ∈ l', 0 ≤ x ∧ x < (G.length : Int) := fun l l' im x m => by
    obtain ⟨z, _, r⟩ := im.2 x m
    obtain ⟨a, b, _, h, _, rfl, _, hh, _⟩ := T.bis _ _ r
    have := (List.getElem?_eq_some_iff.mp hh).1
    omega
  have iL' := iL.perm pm1
  have iR' := iR.perm pm2
  have A1 : Asc G.length ls' := ⟨L2.lt_of_le_nodup ls' le1 (pm1.nodup_iff.mpr nL), bnd _ _ iL'⟩
  have A2 : Asc G.length rs' := ⟨L2.lt_of_le_nodup rs' le2 (pm2.nodup_iff.mpr nR), bnd _ _ iR'⟩
  repeat walk_at "mst"
  refine ⟨F, G, hs, ts, p4, p6, ls', rs', rfl, Y.ex e06, e6 _ _ (e5 _ _ s4), s6, A1, A2, by omega, fun t G' hs' H7 gr7 Y7 pt _ => ?_⟩
  have go : ∀ (i : Nat) (g : Pr), G[i]? = some g → G'[i]? = some g := fun i g e => by
    rcases pt with ⟨_, _, _, rfl⟩ | ⟨_, _, rfl⟩
    · exact e
    · rw [List.getElem?_append_left (List.getElem?_eq_some_iff.mp e).1]; exact e
  have LN' := LN.put pt
  have pl := pt.len
  obtain ⟨tn, rfl, htn⟩ := pt.get
  have tnl := (List.getElem?_eq_some_iff.mp htn).1
  have lt1 : ts.length < sizeLine := Nat.lt_of_le_of_lt (Nat.le_trans LN.few few) (by decide)
  have pl1 := put_len ts (k := (f : Int)) (V.int (tn : Int)) (n := G'.length) ⟨by omega, by omega⟩
  have pl2 := put_len (putK ts (Sum.inl (f : Int)) (V.int (tn : Int))) (k := (tn : Int)) (V.int (f : Int)) (n := G'.length) ⟨by omega, by omega⟩
  have LN2 := LN'
  unfold LenOk at LN2
  have lt2 : (putK ts (Sum.inl (f : Int)) (V.int (tn : Int))).length < sizeLine := Nat.lt_of_le_of_lt (show _ ≤ 1000 by omega) (by decide)
  obtain ⟨T2, gf, dk2⟩ := (T.goes go).two Y7.G (go _ _ hg) htn iL' iR'
  have hi7 := Y7.ins
  repeat walk_at "mst"
  refine ⟨F.t, _, rfl, DPut.k (k := Sum.inl (f : Int)) (v := V.int (tn : Int)) Y7.ts lt1, ?_⟩
  have Y8 : YardAt P w K (upd H7 F.t (HO.dK (putK ts (Sum.inl (f : Int)) (V.int (tn : Int))))) F G' hs' _ := Y7.setT
  have k8 : Gr F H7 (upd H7 F.t (HO.dK (putK ts (Sum.inl (f : Int)) (V.int (tn : Int))))) := fun c o z y => (upd_ne y.2.2.2.2).trans z
  generalize upd H7 F.t (HO.dK (putK ts (Sum.inl (f : Int)) (V.int (tn : Int)))) = H8 at *
  have hi8 := Y8.ins
  repeat walk_at "mst"
  refine ⟨F.t, _, rfl, DPut.k (k := Sum.inl (tn : Int)) (v := V.int (f : Int)) Y8.ts lt2, ?_⟩
  have Y9 : YardAt P w K (upd H8 F.t (HO.dK (putK (putK ts (Sum.inl (f : Int)) (V.int (tn : Int))) (Sum.inl (tn : Int)) (V.int (f : Int))))) F G' hs' _ := Y8.setT
  have k9 : Gr F H8 (upd H8 F.t (HO.dK (putK (putK ts (Sum.inl (f : Int)) (V.int (tn : Int))) (Sum.inl (tn : Int)) (V.int (f : Int))))) := fun c o z y => (upd_ne y.2.2.2.2).trans z
  generalize upd H8 F.t (HO.dK (putK (putK ts (Sum.inl (f : Int)) (V.int (tn : Int))) (Sum.inl (tn : Int)) (V.int (f : Int)))) = H9 at *
  have up : ∀ i, dkey ts i = true → dkey (two ts f tn) i = true := fun i d => by rw [dk2, d, Bool.or_true, Bool.or_true]
  refine q G' hs' (two ts f tn) tn H9 ((Gr.of e06).trans (gr7.trans (k8.trans k9))) Y9 go T2 ?_ gf ⟨_, pt⟩ up ?_
  · show (two ts f tn).length + Un G'.length (dkey (two ts f tn)) ≤ G'.length
    unfold two
    omega
  · rcases pt with ⟨_, _, _, rfl⟩ | ⟨nw, et, rfl⟩
    · unfold Phi
      have := un_mono (n := G'.length) up
      omega
    · have df : dkey ts f = false := by
        cases e : dkey ts f with
        | false => rfl
        | true => exact absurd (T.there Y.G hg e iL' iR' A1.1 A2.1) nw
      have en : tn = G.length := by omega
      have u1 := un_key (n := G.length) (dk := dkey (two ts f tn)) (by rw [dk2, decide_eq_true (by omega)]; rfl)
      have u2 := un_lt (n := G.length) (dk := dkey ts) (dk' := dkey (two ts f tn)) (a := f) up ⟨by omega, by omega⟩ df (by rw [dk2, decide_eq_true (p := (f : Int) = f) rfl]; simp)
      unfold Phi
      rw [List.length_append, List.length_singleton, u1]
      omega
theorem use_turn {P : Program} {w : World} {K : PySem.W.Frag} {H : Hp} {Q : VK} {E : XK} {F : Foot} {G : List Pr} {hs : List Int} {ts : List (Key × V)} {f : Nat} {g : Pr} (Y : YardAt P w K H F G hs ts) (T : TOk G ts) (L : LenOk G ts) (hg : G[f]? = some g) (o : ∀ o ∈ g.1 ++ g.2, dkey ts o = true) (few : G.length ≤ 900)
    (q : ∀ (G' : List Pr) (hs' : List Int) (ts' : List (Key × V)) (t : Int) (H' : Hp), Gr F H H' → YardAt P w K H' F G' hs' ts' → (∀ (i : Nat) (g : Pr), G[i]? = some g → G'[i]? = some g) → TOk G' ts' → LenOk G' ts' → gr ts' f t → (∃ p, Put G p t G') → (∀ i, dkey ts i = true → dkey ts' i = true) → Phi G' ts' ≤ Phi G ts → Q .non H') :
    sp_Yard_p_turn P w K (.ref F.y :: ([.int (f : Int)] ++ [])) H Q E := ⟨F, G, hs, ts, f, g, rfl, Y, T, L, hg, o, few, q⟩
def gd_Yard_m_turned (P : Program) (w : World) (K : PySem.W.Frag) : Sp := fun vs H Q _ => ∃ (F : Foot) (G : List Pr) (hs : List Int) (ts : List (Key × V)) (k : Int), vs = [.ref F.y, .int k] ∧ YardAt P w K H F G hs ts ∧ TOk G ts ∧ LenOk G ts ∧ 0 ≤ k ∧ k < G.length ∧ Phi G ts ≤ 900 ∧
  ∀ (G' : List Pr) (hs' : List Int) (ts' : List (Key × V)) (t : Int) (H' : Hp), Gr F H H' → YardAt P w K H' F G' hs' ts' → (∀ (i : Nat) (g : Pr), G[i]? = some g → G'[i]? = some g) → TOk G' ts' → LenOk G' ts' → gr ts' k t → (∀ i : Nat, G.length ≤ i → i < G'.length → ∃ j, gr ts' j i ∧ Rch G (dkey ts) k j) → Phi G' ts' ≤ Phi G ts → Q (.int t) H'
def bd_Yard_m_turned (P : Program) (w : World) (K : PySem.W.Frag) : Sp := fun vs H _ E => ∃ (F : Foot) (G : List Pr) (hs : List Int) (ts : List (Key × V)) (g : Int), vs = [.ref F.y, .int g] ∧ YardAt P w K H F G hs ts ∧ ¬ (0 ≤ g ∧ g < G.length) ∧ ∀ H', Ex H H' → E (.ref (He.ga K "Unknown")) none H'
def sp_Yard_m_turned (P : Program) (w : World) (K : PySem.W.Frag) : Sp := fun vs H Q E => gd_Yard_m_turned P w K vs H Q E ∨ bd_Yard_m_turned P w K vs H Q E
abbrev N_Yard_m_turned : List Str := ["self", "game", "waiting", "follower"]
def t_Yard_m_turned (P : Program) (w : World) (K : PySem.W.Frag) (E : XK) : TS := (tSeq (tAsg (tMeth (He.ga K "Yard") "reached" (sp_Yard_m_reached P w K) [] E (tVar 0) (tCons (tVar 1) (tCons (tFld K (tVar 0) "_turned") tNil))) (gName 2)) (tSeq (tFor (iList K (tVar 2)) (gName 3) (tDrop (tMeth (He.ga K "Yard") "_turn" (sp_Yard_p_turn P w K) [] E0 (tVar 0) (tCons (tVar 3) tNil)))) (tRet (tDGet (tFld K (tVar 0) "_turned") (tVar 1)))))
theorem lenG_Yard_m_turned {P : Program} {w : World} {K : PySem.W.Frag} {vs : List V} {H : Hp} {Q : VK} {E : XK} (h : gd_Yard_m_turned P w K vs H Q E) : vs.length = 2 := by
  obtain ⟨_, _, _, _, _, rfl, _⟩ := h; rfl
theorem pureG_Yard_m_turned {P : Program} {w : World} {K : PySem.W.Frag} (FY : FYard K) (vs : List V) (H : Hp) (Q : VK) (E : XK) (h : gd_Yard_m_turned P w K vs H Q E) : t_Yard_m_turned P w K E { nx := fun _ H' => Q .non H', rt := Q } (start N_Yard_m_turned vs) H := by
  obtain ⟨F, G, hs, ts, k, rfl, Y, T, LN, k0, k1, few, q⟩ := h
  unfold t_Yard_m_turned
  have fewG : G.length ≤ 900 := Nat.le_trans (phi_le G ts) few
  have hi := Y.ins
  have ht := Y.ts
  repeat walk_at "mst"
  refine Y.meth (by decide +kernel) (by decide +kernel) (by decide +kernel) (by decide +kernel) (by decide +kernel) ?_
  repeat walk_at "mst"
  refine use_reached Y ⟨k0, k1⟩ fewG ht fun p rs H1 np e1 h1 asc mem => ?_
  have Y1 := Y.ex e1
  have op := Y.fresh np
  have rk : ∀ j ∈ rs, 0 ≤ j ∧ j ≤ k := fun j m => ((mem j).mp m).bound Y.G ⟨k0, k1⟩
  repeat walk_at "mst"
  refine ⟨p, rfl, ⟨_, k_sq h1⟩, forK_list (xs := rs.map V.int) (fun n σ H' => ∃ (G' : List Pr) (hs' : List Int) (ts' : List (Key × V)) (x3 : Option V), Gr F H1 H' ∧ YardAt P w K H' F G' hs' ts' ∧ (∀ (i : Nat) (g : Pr), G[i]? = some g → G'[i]? = some g) ∧ TOk G' ts' ∧ LenOk G' ts' ∧ (∀ i, dkey ts i = true → dkey ts' i = true) ∧ Phi G' ts' ≤ Phi G ts ∧
    (∀ j ∈ rs.take n, dkey ts' j = true) ∧ (∀ i : Nat, G.length ≤ i → i < G'.length → ∃ j, gr ts' j i ∧ Rch G (dkey ts) k j) ∧ σ = [some (.ref F.y), some (.int k), some (.ref p), x3]) ⟨G, hs, ts, none, Gr.refl F H1, Y1, fun _ _ h => h, T, LN, fun _ h => h, Nat.le_refl _, fun j m => (nomatch m), fun i a b => absurd b (by omega), rfl⟩ ?_ ?_ ?_⟩
  · rintro n σ H' _ ⟨_, _, _, _, g, _⟩; exact k_sq (g _ _ h1 op)
  · rintro n x σ H2 hx ⟨G', hs', ts', x3, g2, Y2, go, T2, LN2, up, ph, done, nw, rfl⟩
    obtain ⟨j, hj, rfl⟩ := get_int hx
    have mj := List.mem_of_getElem? hj
    have bj := rk j mj
    obtain ⟨jn, rfl⟩ : ∃ n : Nat, j = n := ⟨j.toNat, by omega⟩
    have hg := List.getElem?_eq_getElem (l := G) (i := jn) (by omega)
    generalize G[jn] = g at *
    obtain ⟨as1, as2⟩ := Y.G.asc jn g hg
    have fewG' : G'.length ≤ 900 := Nat.le_trans (phi_le G' ts') (Nat.le_trans ph few)
    repeat walk_at "mst"
    refine Y2.meth (by decide +kernel) (by decide +kernel) (by decide +kernel) (by decide +kernel) (by decide +kernel) ?_
    repeat walk_at "mst"
    refine use_turn Y2 T2 LN2 (go _ _ hg) (fun o m => ?_) fewG' fun G3 hs3 ts3 t H3 g3 Y3 go3 T3 LN3 gt3 pt3 up3 ph3 => ?_
    · have bo := Asc.both as1 as2 o m
      cases d : dkey ts o with
      | true => exact up o d
      | false =>
        have r := Rch.step ((mem _).mp mj) (show G[((jn : Nat) : Int).toNat]? = some g by rw [Int.toNat_natCast]; exact hg) m d
        have mo := (mem o).mpr r
        obtain ⟨i, hi'⟩ := List.mem_iff_getElem?.mp mo
        have hin : i < n := by
          rcases Nat.lt_or_ge i n with h | h
          · exact h
          · exfalso
            have il := (List.getElem?_eq_some_iff.mp hi')
            have nl := (List.getElem?_eq_some_iff.mp hj)
            rcases Nat.eq_or_lt_of_le h with e | e
            · subst e
              rw [hi'] at hj
              injection hj with hj
              omega
            · have := List.pairwise_iff_getElem.mp asc n i nl.1 il.1 e
              rw [il.2, nl.2] at this
              omega
        refine done o (List.mem_of_getElem? (i := i) ?_)
        rw [List.getElem?_take, if_pos hin]; exact hi'
    · have new3 : ∀ i : Nat, G.length ≤ i → i < G3.length → ∃ j, gr ts3 j i ∧ Rch G (dkey ts) k j := fun i a b => by
        have old : ∀ i : Nat, G.length ≤ i → i < G'.length → ∃ j, gr ts3 j i ∧ Rch G (dkey ts) k j := fun i a b => by
          obtain ⟨j, r, rc⟩ := nw i a b
          obtain ⟨j', r'⟩ := T3.ns j (up3 j (gr_key r))
          have e := Bis.fn Y3.G (T2.bis.goes go3) T3.bis r r'
          exact ⟨j, by rw [e]; exact r', rc⟩
        obtain ⟨pp, pt⟩ := pt3
        rcases pt with ⟨_, _, _, e3⟩ | ⟨_, e1, e3⟩
        · rw [e3] at b; exact old i a b
        · by_cases c : i < G'.length
          · exact old i a c
          · rw [e3, List.length_append, List.length_singleton] at b
            have : i = G'.length := by omega
            exact ⟨jn, by rw [this, ← e1]; exact gt3, (mem _).mp mj⟩
      refine ⟨G3, hs3, ts3, _, g2.trans g3, Y3, fun i g h => go3 i g (go i g h), T3, LN3, fun i d => up3 i (up i d), Nat.le_trans ph3 ph, fun y my => ?_, new3, rfl⟩
      rw [List.take_add_one, hj] at my
      rcases List.mem_append.mp my with my | my
      · exact up3 y (done y my)
      · have : y = (jn : Int) := by simpa using my
        rw [this]; exact gr_key gt3
  · rintro σ H2 ⟨G', hs', ts', x3, g2, Y2, go, T2, LN2, up, ph, done, nw, rfl⟩
    have dk : dkey ts' k = true := by
      cases d : dkey ts k with
      | true => exact up k d
      | false => exact done k (by rw [List.take_of_length_le (by rw [List.length_map]; exact Nat.le_refl _)]; exact (mem k).mpr (.root d))
    obtain ⟨t, r⟩ := T2.ns k dk
    have hi2 := Y2.ins
    repeat walk_at "mst"
    refine ⟨F.t, V.int t, rfl, ?_, ?_⟩
    · have z := DGet.k (k := Sum.inl k) Y2.ts
      rw [show valV ts' (Sum.inl k) = some (V.int t) from r] at z
      exact z
    · exact q G' hs' ts' t H2 ((Gr.of e1).trans g2) Y2 go T2 LN2 r nw ph
theorem use_turned {P : Program} {w : World} {K : PySem.W.Frag} {H : Hp} {Q : VK} {E : XK} {F : Foot} {G : List Pr} {hs : List Int} {ts : List (Key × V)} {k : Int} (Y : YardAt P w K H F G hs ts) (T : TOk G ts) (L : LenOk G ts) (b : 0 ≤ k ∧ k < G.length) (few : Phi G ts ≤ 900)
    (q : ∀ (G' : List Pr) (hs' : List Int) (ts' : List (Key × V)) (t : Int) (H' : Hp), Gr F H H' → YardAt P w K H' F G' hs' ts' → (∀ (i : Nat) (g : Pr), G[i]? = some g → G'[i]? = some g) → TOk G' ts' → LenOk G' ts' → gr ts' k t → (∀ i : Nat, G.length ≤ i → i < G'.length → ∃ j, gr ts' j i ∧ Rch G (dkey ts) k j) → Phi G' ts' ≤ Phi G ts → Q (.int t) H') :
    sp_Yard_m_turned P w K (.ref F.y :: ([.int k] ++ [])) H Q E := Or.inl ⟨F, G, hs, ts, k, rfl, Y, T, L, b.1, b.2, few, q⟩
theorem lenB_Yard_m_turned {P : Program} {w : World} {K : PySem.W.Frag} {vs : List V} {H : Hp} {Q : VK} {E : XK} (h : bd_Yard_m_turned P w K vs H Q E) : vs.length = 2 := by
  obtain ⟨_, _, _, _, _, rfl, _⟩ := h; rfl
theorem len_Yard_m_turned {P : Program} {w : World} {K : PySem.W.Frag} {vs : List V} {H : Hp} {Q : VK} {E : XK} (h : sp_Yard_m_turned P w K vs H Q E) : vs.length = 2 := h.elim lenG_Yard_m_turned lenB_Yard_m_turned
theorem pureB_Yard_m_turned {P : Program} {w : World} {K : PySem.W.Frag} (FY : FYard K) (vs : List V) (H : Hp) (Q : VK) (E : XK) (h : bd_Yard_m_turned P w K vs H Q E) : t_Yard_m_turned P w K E { nx := fun _ H' => Q .non H', rt := Q } (start N_Yard_m_turned vs) H := by
  obtain ⟨F, G, hs, ts, g, rfl, Y, b, q⟩ := h
  have hi := Y.ins
  unfold t_Yard_m_turned
  repeat walk_at "mst"
  refine Y.meth (by decide +kernel) (by decide +kernel) (by decide +kernel) (by decide +kernel) (by decide +kernel) ?_
  repeat walk_at "mst"
  exact useB_reached Y b q
theorem pure_Yard_m_turned {P : Program} {w : World} {K : PySem.W.Frag} (FY : FYard K) (vs : List V) (H : Hp) (Q : VK) (E : XK) (h : sp_Yard_m_turned P w K vs H Q E) : t_Yard_m_turned P w K E { nx := fun _ H' => Q .non H', rt := Q } (start N_Yard_m_turned vs) H := h.elim (pureG_Yard_m_turned FY vs H Q E) (pureB_Yard_m_turned FY vs H Q E)
theorem useB_turned {P : Program} {w : World} {K : PySem.W.Frag} {H : Hp} {Q : VK} {E : XK} {F : Foot} {G : List Pr} {hs : List Int} {ts : List (Key × V)} {g : Int} (Y : YardAt P w K H F G hs ts) (b : ¬ (0 ≤ g ∧ g < G.length)) (q : ∀ H', Ex H H' → E (.ref (He.ga K "Unknown")) none H') : sp_Yard_m_turned P w K (.ref F.y :: ([.int g] ++ [])) H Q E := Or.inr ⟨F, G, hs, ts, g, rfl, Y, b, q⟩
def sp_law_followers (K : PySem.W.Frag) : Sp := fun vs H Q _ => ∃ (Z : Addr → Prop) (G : List Pr) (m : Addr) (k : Nat), vs = [.ref m, .int k] ∧ ModAt Z H m G ∧ Forms G ∧ k < G.length ∧ G.length ≤ 200 ∧
  ∀ (p : Addr) (rs : List Int) (H' : Hp), H p = none → Ex H H' → H' p = some (.lst (rs.map V.int)) → rs.Pairwise (· < ·) → (∀ j, j ∈ rs ↔ Rch G (dkey []) k j) → Q (.ref p) H'
abbrev N_law_followers : List Str := ["model", "at", "found", "form", "k", "option"]
def t_law_followers (K : PySem.W.Frag) (E : XK) : TS := (tSeq (tAsg (tLc (iList K (tVar 0)) (gName 3) tYes (tC (.bl false)) [3]) (gName 2)) (tSeq (tAsg (tC (.bl true)) (gSub (tVar 2) (tVar 1) L2.rSetL)) (tSeq (tFor (iRng3 (tCons (tVar 1) (tCons (tUn rNegI (tC (.int 1))) (tCons (tUn rNegI (tC (.int 1))) tNil)))) (gName 4) (tIfS (tB (tOp (rIxL K) (tVar 2) (tVar 4))) (tFor (iList K (tOp rCat (tOp (rIxT K) (tOp (rIxL K) (tVar 0) (tVar 4)) (tC (.int 0))) (tOp (rIxT K) (tOp (rIxL K) (tVar 0) (tVar 4)) (tC (.int 1))))) (gName 5) (tAsg (tC (.bl true)) (gSub (tVar 2) (tVar 5) L2.rSetL))) tNext)) (tRet (tLc (iRng1 (tCons (tOp rAddI (tVar 1) (tC (.int 1))) tNil)) (gName 4) (tB (tOp (rIxL K) (tVar 2) (tVar 4))) (tVar 4) [4])))))
theorem len_law_followers {K : PySem.W.Frag} {vs : List V} {H : Hp} {Q : VK} {E : XK} (h : sp_law_followers K vs H Q E) : vs.length = 2 := by
  obtain ⟨_, _, _, _, rfl, _⟩ := h; rfl
/-- the j-th mark -/
def mrk (bs : List Bool) (j : Nat) : Bool := bs.getD j false
theorem mk_set {bs : List Bool} {i j : Nat} (h : i < bs.length) : mrk (bs.set i true) j = (decide (j = i) || mrk bs j) := by
  unfold mrk
  rw [List.getD_eq_getElem?_getD, List.getElem?_set, List.getD_eq_getElem?_getD]
  by_cases e : i = j
  · subst e; rw [if_pos rfl, if_pos h]; simp
  · rw [if_neg e]; simp [Ne.symm e]
theorem mk_at {bs : List Bool} {j : Int} (h0 : 0 ≤ j) (h : j < bs.length) : atI (bs.map V.bl) j = some (V.bl (mrk bs j.toNat)) := by
  have e : ((j.toNat : Nat) : Int) = j := by omega
  have z : atI (bs.map V.bl) ((j.toNat : Nat) : Int) = some (V.bl (mrk bs j.toNat)) := atI_nat (by
    unfold mrk
    rw [List.getElem?_map, List.getD_eq_getElem?_getD, List.getElem?_eq_getElem (by omega)]; rfl)
  rw [e] at z
  exact z
theorem ix_nat {n : Nat} {j : Int} (h0 : 0 ≤ j) (h : j < n) : ixN n j = some j.toNat := by
  unfold ixN
  rw [if_pos h0, if_pos (by omega)]
/-- the marks, when the games from c on are done -/
structure Mks (G : List Pr) (k c : Nat) (bs : List Bool) : Prop where
  len : bs.length = G.length
  root : mrk bs k = true
  ok : ∀ j, mrk bs j = true → Rch G (dkey []) k j
  cl : ∀ i, c ≤ i → mrk bs i = true → ∀ g, G[i]? = some g → ∀ j ∈ g.1 ++ g.2, mrk bs j.toNat = true
theorem Mks.more {G : List Pr} {k c i j : Nat} {bs : List Bool} {g : Pr} (x : Mks G k c bs) (f : Forms G) (hi : mrk bs i = true) (hg : G[i]? = some g) (hj : (j : Int) ∈ g.1 ++ g.2) (ic : i < c) : Mks G k c (bs.set j true) := by
  obtain ⟨a1, a2⟩ := f.asc i g hg
  have b := Asc.both a1 a2 _ hj
  have gi := (List.getElem?_eq_some_iff.mp hg).1
  have jl : j < bs.length := by rw [x.len]; omega
  refine ⟨by rw [List.length_set, x.len], by rw [mk_set jl, x.root, Bool.or_true], fun y h => ?_, fun y hy h g' hg' z mz => ?_⟩
  · rw [mk_set jl, Bool.or_eq_true, decide_eq_true_eq] at h
    rcases h with rfl | h
    · exact .step (x.ok i hi) (by rw [Int.toNat_natCast]; exact hg) hj rfl
    · exact x.ok y h
  · rw [mk_set jl, Bool.or_eq_true, decide_eq_true_eq] at h
    rw [mk_set jl]
    rcases h with rfl | h
    · omega
    · rw [x.cl y hy h g' hg' z mz, Bool.or_true]
theorem Mks.all {G : List Pr} {k : Nat} {bs : List Bool} (x : Mks G k 0 bs) (f : Forms G) (hk : k < G.length) : ∀ j : Int, Rch G (dkey []) k j → mrk bs j.toNat = true := fun j r => by
  induction r with
  | root _ => rw [Int.toNat_natCast]; exact x.root
  | @step i j g r hg m _ ih => exact x.cl i.toNat (Nat.zero_le _) ih g hg j m
theorem pure_law_followers {K : PySem.W.Frag} (vs : List V) (H : Hp) (Q : VK) (E : XK) (h : sp_law_followers K vs H Q E) : t_law_followers K E { nx := fun _ H' => Q .non H', rt := Q } (start N_law_followers vs) H := by
  obtain ⟨Z, G, m, k, rfl, M, FG, hk, few, q⟩ := h
  obtain ⟨xs, hm, fs⟩ := M
  have xl : xs.length = G.length := fs.1
  unfold t_law_followers
  repeat walk_at "mst"
  refine ⟨m, rfl, ⟨_, k_sq hm⟩, lcR_list (K := K) (fun _ => some (V.bl false)) (k_sq hm) (Nat.lt_of_le_of_lt (show _ ≤ 200 by omega) (by decide)) (fun x hx => ?_) fun D H1 nD e1 hD => ?_⟩
  · refine turn_map fun H'' e R r => ?_
    repeat walk_at "mst"
    exact r
  have eD : xs.filterMap (fun _ => some (V.bl false)) = (List.replicate G.length false).map V.bl := by
    rw [← xl, List.map_replicate]
    clear hm fs xl hD
    induction xs with
    | nil => rfl
    | cons x xs ih => rw [List.filterMap_cons, List.length_cons, List.replicate_succ, ih]
  rw [eD] at hD
  have rl : ((List.replicate G.length false).map V.bl).length = G.length := by rw [List.length_map, List.length_replicate]
  repeat walk_at "mst"
  refine ⟨D, _, _, k, rfl, rfl, hD, by rw [rl]; exact ix_nat (by omega) (by omega), ?_⟩
  have e2 : Ex H (upd H1 D (HO.lst (((List.replicate G.length false).map V.bl).set k (V.bl true)))) := Evl.Ex.mut e1 nD
  have s2 : upd H1 D (HO.lst (((List.replicate G.length false).map V.bl).set k (V.bl true))) D = some (HO.lst (((List.replicate G.length false).set k true).map V.bl)) := by rw [upd_same, List.map_set]
  generalize upd H1 D (HO.lst (((List.replicate G.length false).map V.bl).set k (V.bl true))) = H2 at *
  have kl : k < (List.replicate G.length false).length := by rw [List.length_replicate]; exact hk
  have no : ∀ j, mrk (List.replicate G.length false) j = false := fun j => by
    unfold mrk
    rw [List.getD_eq_getElem?_getD, List.getElem?_replicate]
    split <;> rfl
  have M0 : Mks G k (k + 1) ((List.replicate G.length false).set k true) := by
    refine ⟨by rw [List.length_set, List.length_replicate], by rw [mk_set kl]; simp, fun j h => ?_, fun i hi h => ?_⟩
    · rw [mk_set kl, no, Bool.or_false, decide_eq_true_eq] at h
      subst h
      exact .root rfl
    · rw [mk_set kl, no, Bool.or_false, decide_eq_true_eq] at h
      omega
  repeat walk_at "mst"
  refine ⟨_, _, _, _, rfl, RgC.neg (by omega) (by omega) (by decide) (by decide), for_rangeC (lo := (k : Int)) (c := -1) (fun i σ H' => ∃ (bs : List Bool) (x4 x5 : Option V), Mks G k (k + 1 - i) bs ∧ Ex H H' ∧ H' D = some (.lst (bs.map V.bl)) ∧ σ = [some (.ref m), some (.int k), some (.ref D), none, x4, x5]) ⟨_, none, none, M0, e2, s2, rfl⟩ ?_ ?_⟩
  · rintro i σ H3 hi ⟨bs, x4, x5, MK, e3, h3, rfl⟩
    have hi2 : i ≤ k := by omega
    obtain ⟨c, hc⟩ : ∃ c : Nat, k - i = c := ⟨_, rfl⟩
    have ec : (k : Int) + (i : Nat) * (-1) = (c : Int) := by omega
    rw [ec]
    have ec1 : k + 1 - i = c + 1 := by omega
    have ec2 : k + 1 - (i + 1) = c := by omega
    rw [ec1] at MK
    rw [ec2]
    have cG : c < G.length := by omega
    have hg := List.getElem?_eq_getElem cG
    generalize G[c] = g at *
    obtain ⟨a, ha, p1, p2, hf, hp1, hp2, _, _⟩ := (fs.ex e3).2 c g hg
    obtain ⟨as1, as2⟩ := FG.asc c g hg
    have l1 := as1.len
    have l2 := as2.len
    have hm3 := e3 _ _ hm
    repeat walk_at "mst"
    refine k_ixL (k_sq h3) (mk_at (by omega) (by rw [MK.len]; omega)) ?_
    rw [Int.toNat_natCast]
    repeat walk_at "mst"
    refine k_iteB (fun hb => ?_) (fun hb => ?_)
    · repeat walk_at "mst"
      refine k_ixL (k_sq hm3) (atI_nat ha) ?_
      repeat walk_at "mst"
      refine k_ixL (k_sq hm3) (atI_nat ha) ?_
      repeat walk_at "mst"
      refine k_rCat hp1 hp2 (by rw [List.length_map, List.length_map]; exact Nat.le_trans (show _ ≤ 2000 by omega) (by decide)) fun u nu => ?_
      rw [← List.map_append]
      have e4 := Evl.Ex.new (o := HO.lst ((g.1 ++ g.2).map V.int)) nu
      have s4 : upd H3 u (HO.lst ((g.1 ++ g.2).map V.int)) u = some (HO.lst ((g.1 ++ g.2).map V.int)) := upd_same
      generalize upd H3 u (HO.lst ((g.1 ++ g.2).map V.int)) = H4 at *
      have duD : u ≠ D := (ne_of_none h3 nu).symm
      refine ⟨u, rfl, ⟨_, k_sq s4⟩, forK_list (xs := (g.1 ++ g.2).map V.int) (fun n σ' H' => ∃ (bs : List Bool) (x5 : Option V), Mks G k (c + 1) bs ∧ mrk bs c = true ∧ (∀ j ∈ (g.1 ++ g.2).take n, mrk bs j.toNat = true) ∧ Ex H H' ∧ H' u = some (.lst ((g.1 ++ g.2).map V.int)) ∧ H' D = some (.lst (bs.map V.bl)) ∧ σ' = [some (.ref m), some (.int k), some (.ref D), none, some (.int c), x5])
        ⟨bs, x5, MK, hb, fun j m => (nomatch m), e3.trans e4, s4, e4 _ _ h3, rfl⟩ ?_ ?_ ?_⟩
      · rintro n σ' H' _ ⟨_, _, _, _, _, _, h, _⟩; exact k_sq h
      · rintro n x σ' H5 hx ⟨bs', y5, MK', hb', pre, e5, hu5, h5, rfl⟩
        obtain ⟨j, hj, rfl⟩ := get_int hx
        have mj := List.mem_of_getElem? hj
        have bj := Asc.both as1 as2 j mj
        obtain ⟨jn, rfl⟩ : ∃ n : Nat, j = n := ⟨j.toNat, by omega⟩
        have jl : jn < bs'.length := by rw [MK'.len]; omega
        repeat walk_at "mst"
        refine ⟨D, _, _, jn, rfl, rfl, h5, by rw [List.length_map]; exact ix_nat (by omega) (by omega), ?_⟩
        have e6 : Ex H (upd H5 D (HO.lst ((bs'.map V.bl).set jn (V.bl true)))) := Evl.Ex.mut e5 nD
        have s6 : upd H5 D (HO.lst ((bs'.map V.bl).set jn (V.bl true))) D = some (HO.lst ((bs'.set jn true).map V.bl)) := by rw [upd_same, List.map_set]
        have u6 : upd H5 D (HO.lst ((bs'.map V.bl).set jn (V.bl true))) u = some (.lst ((g.1 ++ g.2).map V.int)) := by rw [upd_ne duD]; exact hu5
        generalize upd H5 D (HO.lst ((bs'.map V.bl).set jn (V.bl true))) = H6 at *
        repeat walk_at "mst"
        refine ⟨bs'.set jn true, _, MK'.more FG hb' hg mj (Nat.lt_succ_self c), by rw [mk_set jl, hb', Bool.or_true], fun y my => ?_, e6, u6, s6, rfl⟩
        rw [mk_set jl]
        rw [List.take_add_one, hj] at my
        rcases List.mem_append.mp my with my | my
        · rw [pre y my, Bool.or_true]
        · have : y = (jn : Int) := by simpa using my
          rw [this, Int.toNat_natCast]; simp
      · rintro σ' H5 ⟨bs', y5, MK', hb', pre, e5, hu5, h5, rfl⟩
        refine ⟨bs', _, _, ⟨MK'.len, MK'.root, MK'.ok, fun y hy h g' hg' j mj => ?_⟩, e5, h5, rfl⟩
        rcases Nat.lt_or_ge c y with lt | ge
        · exact MK'.cl y lt h g' hg' j mj
        · have : y = c := by omega
          subst this
          rw [hg] at hg'
          injection hg' with hg'
          subst hg'
          exact pre j (by rw [List.length_map, List.take_of_length_le (Nat.le_refl _)]; exact mj)
    · repeat walk_at "mst"
      refine ⟨bs, _, _, ⟨MK.len, MK.root, MK.ok, fun y hy h g' hg' j mj => ?_⟩, e3, h3, rfl⟩
      rcases Nat.lt_or_ge c y with lt | ge
      · exact MK.cl y lt h g' hg' j mj
      · have : y = c := by omega
        subst this
        rw [hb] at h; cases h
  · rintro σ H3 ⟨bs, x4, x5, MK, e3, h3, rfl⟩
    have e0 : k + 1 - ((k : Int) - -1).toNat = 0 := by omega
    rw [e0] at MK
    repeat walk_at "mst"
    refine ⟨_, rfl, by omega, by omega, lcR_rng (n := k + 1) (fun i => if mrk bs i = true then some (V.int i) else none) (Nat.lt_of_le_of_lt (show _ ≤ 201 by omega) (by decide)) (fun i hi => ?_) fun p H4 np e4 hp => ?_⟩
    · refine turn_flt fun H' e R r => ?_
      have h' := e _ _ h3
      repeat walk_at "mst"
      refine k_ixL (k_sq h') (mk_at (by omega) (by rw [MK.len]; omega)) ?_
      rw [Int.toNat_natCast]
      repeat walk_at "mst"
      exact r
    · rw [kept_map] at hp
      refine q p _ H4 (Evl.fresh_back e3 np) (e3.trans e4) hp (kept_asc _ _).1 fun j => ?_
      rw [mem_kept]
      constructor
      · rintro ⟨i, rfl, _, h⟩; exact MK.ok i h
      · intro r
        have b := r.bound FG ⟨by omega, by omega⟩
        exact ⟨j.toNat, by omega, by omega, MK.all FG hk j r⟩
theorem use_lfollowers {K : PySem.W.Frag} {H : Hp} {Q : VK} {E : XK} {Z : Addr → Prop} {G : List Pr} {m : Addr} {k : Nat} (M : ModAt Z H m G) (F : Forms G) (hk : k < G.length) (few : G.length ≤ 200)
    (q : ∀ (p : Addr) (rs : List Int) (H' : Hp), H p = none → Ex H H' → H' p = some (.lst (rs.map V.int)) → rs.Pairwise (· < ·) → (∀ j, j ∈ rs ↔ Rch G (dkey []) k j) → Q (.ref p) H') : sp_law_followers K ([.ref m, .int (k : Int)] ++ []) H Q E := ⟨Z, G, m, k, rfl, M, F, hk, few, q⟩
/-- the ascending list of the members of l -/
def AscOf (l as : List Int) : Prop := as.Pairwise (· < ·) ∧ ∀ k, k ∈ as ↔ k ∈ l
def gd_Yard_m_game (P : Program) (w : World) (K : PySem.W.Frag) : Sp := fun vs H Q _ => ∃ (F : Foot) (G : List Pr) (hs : List Int) (ts : List (Key × V)) (pl pr : Addr) (ls rs : List Int), vs = [.ref F.y, .ref pl, .ref pr] ∧ YardAt P w K H F G hs ts ∧
  SqL K H pl (ls.map V.int) ∧ SqL K H pr (rs.map V.int) ∧ (∀ x ∈ ls, 0 ≤ x ∧ x < G.length) ∧ (∀ x ∈ rs, 0 ≤ x ∧ x < G.length) ∧ (ls.length < 64 ∧ rs.length < 64) ∧ G.length ≤ 1000 ∧
  ∀ (as bs : List Int) (i : Int) (G' : List Pr) (hs' : List Int) (H' : Hp), AscOf ls as → AscOf rs bs → Gr F H H' → YardAt P w K H' F G' hs' ts → Put G (as, bs) i G' → Hgt G hs (as, bs) G' hs' → Q (.int i) H'
def bd_Yard_m_game (P : Program) (w : World) (K : PySem.W.Frag) : Sp := fun vs H _ E => ∃ (F : Foot) (G : List Pr) (hs : List Int) (ts : List (Key × V)) (pl pr : Addr) (ls rs : List Int), vs = [.ref F.y, .ref pl, .ref pr] ∧ YardAt P w K H F G hs ts ∧ SqL K H pl (ls.map V.int) ∧ SqL K H pr (rs.map V.int) ∧ ¬ (∀ x ∈ ls ++ rs, 0 ≤ x ∧ x < G.length) ∧ ∀ H', Ex H H' → E (.ref (He.ga K "Unknown")) none H'
def sp_Yard_m_game (P : Program) (w : World) (K : PySem.W.Frag) : Sp := fun vs H Q E => gd_Yard_m_game P w K vs H Q E ∨ bd_Yard_m_game P w K vs H Q E
abbrev N_Yard_m_game : List Str := ["self", "lefts", "rights", "option"]
def t_Yard_m_game (P : Program) (w : World) (K : PySem.W.Frag) (E : XK) : TS := (tSeq (tFor (iList K (tVar 1)) (gName 3) (tDrop (tMeth (He.ga K "Yard") "check" (sp_Yard_m_check P w K) [] E (tVar 0) (tCons (tVar 3) tNil)))) (tSeq (tFor (iList K (tVar 2)) (gName 3) (tDrop (tMeth (He.ga K "Yard") "check" (sp_Yard_m_check P w K) [] E (tVar 0) (tCons (tVar 3) tNil)))) (tRet (tMeth (He.ga K "Yard") "_kept" (sp_Yard_p_kept P w K) [] E0 (tVar 0) (tCons (tCB (rTupL K) (tCons (tCB (rSortX w) (tCons (tCB (rSetL K w) (tCons (tVar 1) tNil)) tNil)) tNil)) (tCons (tCB (rTupL K) (tCons (tCB (rSortX w) (tCons (tCB (rSetL K w) (tCons (tVar 2) tNil)) tNil)) tNil)) tNil))))))
theorem lenG_Yard_m_game {P : Program} {w : World} {K : PySem.W.Frag} {vs : List V} {H : Hp} {Q : VK} {E : XK} (h : gd_Yard_m_game P w K vs H Q E) : vs.length = 3 := by
  obtain ⟨_, _, _, _, _, _, _, _, rfl, _⟩ := h; rfl
theorem AscOf.asc {l as : List Int} {n : Nat} (h : AscOf l as) (b : ∀ x ∈ l, 0 ≤ x ∧ x < (n : Int)) : Asc n as := ⟨h.1, fun x m => b x ((h.2 x).mp m)⟩
theorem pureG_Yard_m_game {P : Program} {w : World} {K : PySem.W.Frag} (vs : List V) (H : Hp) (Q : VK) (E : XK) (h : gd_Yard_m_game P w K vs H Q E) : t_Yard_m_game P w K E { nx := fun _ H' => Q .non H', rt := Q } (start N_Yard_m_game vs) H := by
  obtain ⟨F, G, hs, ts, pl, pr, ls, rs, rfl, Y, hpl, hpr, bl, br, few, big, q⟩ := h
  unfold t_Yard_m_game
  repeat walk_at "mst"
  refine ⟨pl, rfl, ⟨_, hpl⟩, forK_list (xs := ls.map V.int) (fun i σ H' => H' = H ∧ ∃ x : Option V, σ = [some (.ref F.y), some (.ref pl), some (.ref pr), x]) ⟨rfl, _, rfl⟩ ?_ ?_ ?_⟩
  · rintro i σ H' _ ⟨rfl, _⟩; exact hpl
  · rintro i x σ H' hx ⟨rfl, y, rfl⟩
    obtain ⟨z, hz, rfl⟩ := get_int hx
    repeat walk_at "mst"
    refine Y.meth (by decide +kernel) (by decide +kernel) (by decide +kernel) (by decide +kernel) (by decide +kernel) ?_
    repeat walk_at "mst"
    refine use_check Y (bl z (List.mem_of_getElem? hz)) ?_
    repeat walk_at "mst"
    exact ⟨rfl, _, rfl⟩
  rintro σ H' ⟨rfl, x, rfl⟩
  repeat walk_at "mst"
  refine ⟨pr, rfl, ⟨_, hpr⟩, forK_list (xs := rs.map V.int) (fun i σ H0 => H0 = H' ∧ ∃ x : Option V, σ = [some (.ref F.y), some (.ref pl), some (.ref pr), x]) ⟨rfl, _, rfl⟩ ?_ ?_ ?_⟩
  · rintro i σ H' _ ⟨rfl, _⟩; exact hpr
  · rintro i x σ H' hx ⟨rfl, y, rfl⟩
    obtain ⟨z, hz, rfl⟩ := get_int hx
    repeat walk_at "mst"
    refine Y.meth (by decide +kernel) (by decide +kernel) (by decide +kernel) (by decide +kernel) (by decide +kernel) ?_
    repeat walk_at "mst"
    refine use_check Y (br z (List.mem_of_getElem? hz)) ?_
    repeat walk_at "mst"
    exact ⟨rfl, _, rfl⟩
  rintro σ H0 ⟨rfl, x, rfl⟩
  repeat walk_at "mst"
  refine Y.meth (by decide +kernel) (by decide +kernel) (by decide +kernel) (by decide +kernel) (by decide +kernel) ?_
  repeat walk_at "mst"
  refine k_rSetL hpl (by omega) fun s1 c1 n1 l1 => ?_
  have e1 := Evl.Ex.new (o := SetO w s1 (fun j => decide (j ∈ ls)) c1) n1
  have a1 : upd H0 s1 (SetO w s1 (fun j => decide (j ∈ ls)) c1) s1 = some (SetO w s1 (fun j => decide (j ∈ ls)) c1) := upd_same
  generalize upd H0 s1 (SetO w s1 (fun j => decide (j ∈ ls)) c1) = H1 at *
  repeat walk_at "mst"
  refine k_rSorted a1 (by omega) fun as p1 asc1 mem1 len1 n2 => ?_
  have e2 := Evl.Ex.new (o := HO.lst (as.map V.int)) n2
  have a2 : upd H1 p1 (HO.lst (as.map V.int)) p1 = some (HO.lst (as.map V.int)) := upd_same
  generalize upd H1 p1 (HO.lst (as.map V.int)) = H2 at *
  repeat walk_at "mst"
  intro q1 n3
  have e3 := Evl.Ex.new (o := HO.tup (as.map V.int)) n3
  have a3 : upd H2 q1 (HO.tup (as.map V.int)) q1 = some (HO.tup (as.map V.int)) := upd_same
  generalize upd H2 q1 (HO.tup (as.map V.int)) = H3 at *
  have e03 := e1.trans (e2.trans e3)
  repeat walk_at "mst"
  refine k_rSetL (Evl.ex_l e03 hpr) (by omega) fun s2 c2 n4 l2 => ?_
  have e4 := Evl.Ex.new (o := SetO w s2 (fun j => decide (j ∈ rs)) c2) n4
  have a4 : upd H3 s2 (SetO w s2 (fun j => decide (j ∈ rs)) c2) s2 = some (SetO w s2 (fun j => decide (j ∈ rs)) c2) := upd_same
  generalize upd H3 s2 (SetO w s2 (fun j => decide (j ∈ rs)) c2) = H4 at *
  repeat walk_at "mst"
  refine k_rSorted a4 (by omega) fun bs p2 asc2 mem2 len2 n5 => ?_
  have e5 := Evl.Ex.new (o := HO.lst (bs.map V.int)) n5
  have a5 : upd H4 p2 (HO.lst (bs.map V.int)) p2 = some (HO.lst (bs.map V.int)) := upd_same
  generalize upd H4 p2 (HO.lst (bs.map V.int)) = H5 at *
  repeat walk_at "mst"
  intro q2 n6
  have e6 := Evl.Ex.new (o := HO.tup (bs.map V.int)) n6
  have a6 : upd H5 q2 (HO.tup (bs.map V.int)) q2 = some (HO.tup (bs.map V.int)) := upd_same
  generalize upd H5 q2 (HO.tup (bs.map V.int)) = H6 at *
  have e36 := e4.trans (e5.trans e6)
  have A1 : AscOf ls as := ⟨asc1, fun k => by rw [mem1]; exact decide_eq_true_iff⟩
  have A2 : AscOf rs bs := ⟨asc2, fun k => by rw [mem2]; exact decide_eq_true_iff⟩
  repeat walk_at "mst"
  refine ⟨F, G, hs, ts, q1, q2, as, bs, rfl, Y.ex (e03.trans e36), e36 _ _ a3, a6, A1.asc bl, A2.asc br, big, fun i G' hs' H' g Y' pt hg => ?_⟩
  exact q as bs i G' hs' H' A1 A2 ((Gr.of (e03.trans e36)).trans g) Y' pt hg
theorem use_game {P : Program} {w : World} {K : PySem.W.Frag} {H : Hp} {Q : VK} {E : XK} {F : Foot} {G : List Pr} {hs : List Int} {ts : List (Key × V)} {pl pr : Addr} {ls rs : List Int} (Y : YardAt P w K H F G hs ts) (h1 : SqL K H pl (ls.map V.int)) (h2 : SqL K H pr (rs.map V.int)) (b1 : ∀ x ∈ ls, 0 ≤ x ∧ x < (G.length : Int)) (b2 : ∀ x ∈ rs, 0 ≤ x ∧ x < (G.length : Int)) (few : ls.length < 64 ∧ rs.length < 64) (big : G.length ≤ 1000)
    (q : ∀ (as bs : List Int) (i : Int) (G' : List Pr) (hs' : List Int) (H' : Hp), AscOf ls as → AscOf rs bs → Gr F H H' → YardAt P w K H' F G' hs' ts → Put G (as, bs) i G' → Hgt G hs (as, bs) G' hs' → Q (.int i) H') : sp_Yard_m_game P w K (.ref F.y :: ([.ref pl, .ref pr] ++ [])) H Q E :=
  Or.inl ⟨F, G, hs, ts, pl, pr, ls, rs, rfl, Y, h1, h2, b1, b2, few, big, q⟩
theorem lenB_Yard_m_game {P : Program} {w : World} {K : PySem.W.Frag} {vs : List V} {H : Hp} {Q : VK} {E : XK} (h : bd_Yard_m_game P w K vs H Q E) : vs.length = 3 := by
  obtain ⟨_, _, _, _, _, _, _, _, rfl, _⟩ := h; rfl
theorem len_Yard_m_game {P : Program} {w : World} {K : PySem.W.Frag} {vs : List V} {H : Hp} {Q : VK} {E : XK} (h : sp_Yard_m_game P w K vs H Q E) : vs.length = 3 := h.elim lenG_Yard_m_game lenB_Yard_m_game
theorem pureB_Yard_m_game {P : Program} {w : World} {K : PySem.W.Frag} (vs : List V) (H : Hp) (Q : VK) (E : XK) (h : bd_Yard_m_game P w K vs H Q E) : t_Yard_m_game P w K E { nx := fun _ H' => Q .non H', rt := Q } (start N_Yard_m_game vs) H := by
  obtain ⟨F, G, hs, ts, pl, pr, ls, rs, rfl, Y, hpl, hpr, b, q⟩ := h
  unfold t_Yard_m_game
  repeat walk_at "mst"
  refine ⟨pl, rfl, ⟨_, hpl⟩, forK_list (xs := ls.map V.int) (fun i σ H' => H' = H ∧ (∀ x ∈ ls.take i, 0 ≤ x ∧ x < (G.length : Int)) ∧ ∃ x : Option V, σ = [some (.ref F.y), some (.ref pl), some (.ref pr), x]) ⟨rfl, (fun x m => by rw [List.take_zero] at m; cases m), _, rfl⟩ ?_ ?_ ?_⟩
  · rintro i σ H' _ ⟨rfl, _⟩; exact hpl
  · rintro i x σ H' hx ⟨rfl, pre, y, rfl⟩
    obtain ⟨z, hz, rfl⟩ := get_int hx
    repeat walk_at "mst"
    refine Y.meth (by decide +kernel) (by decide +kernel) (by decide +kernel) (by decide +kernel) (by decide +kernel) ?_
    repeat walk_at "mst"
    by_cases g : 0 ≤ z ∧ z < (G.length : Int)
    · refine use_check Y g ?_
      repeat walk_at "mst"
      refine ⟨rfl, fun x m => ?_, _, rfl⟩
      rw [List.take_succ, hz] at m
      rcases List.mem_append.1 m with m | m
      · exact pre x m
      · obtain rfl : x = z := by simpa using m
        exact g
    · exact useB_check Y g q
  rintro σ H' ⟨rfl, pl1, x, rfl⟩
  repeat walk_at "mst"
  refine ⟨pr, rfl, ⟨_, hpr⟩, forK_list (xs := rs.map V.int) (fun i σ H0 => H0 = H' ∧ (∀ x ∈ rs.take i, 0 ≤ x ∧ x < (G.length : Int)) ∧ ∃ x : Option V, σ = [some (.ref F.y), some (.ref pl), some (.ref pr), x]) ⟨rfl, (fun x m => by rw [List.take_zero] at m; cases m), _, rfl⟩ ?_ ?_ ?_⟩
  · rintro i σ H' _ ⟨rfl, _⟩; exact hpr
  · rintro i x σ H' hx ⟨rfl, pre, y, rfl⟩
    obtain ⟨z, hz, rfl⟩ := get_int hx
    repeat walk_at "mst"
    refine Y.meth (by decide +kernel) (by decide +kernel) (by decide +kernel) (by decide +kernel) (by decide +kernel) ?_
    repeat walk_at "mst"
    by_cases g : 0 ≤ z ∧ z < (G.length : Int)
    · refine use_check Y g ?_
      repeat walk_at "mst"
      refine ⟨rfl, fun x m => ?_, _, rfl⟩
      rw [List.take_succ, hz] at m
      rcases List.mem_append.1 m with m | m
      · exact pre x m
      · obtain rfl : x = z := by simpa using m
        exact g
    · exact useB_check Y g q
  rintro σ H0 ⟨rfl, pr1, x, rfl⟩
  rw [List.length_map, List.take_length] at pl1 pr1
  exact absurd (fun x m => (List.mem_append.1 m).elim (pl1 x) (pr1 x)) b
theorem pure_Yard_m_game {P : Program} {w : World} {K : PySem.W.Frag} (vs : List V) (H : Hp) (Q : VK) (E : XK) (h : sp_Yard_m_game P w K vs H Q E) : t_Yard_m_game P w K E { nx := fun _ H' => Q .non H', rt := Q } (start N_Yard_m_game vs) H := h.elim (pureG_Yard_m_game vs H Q E) (pureB_Yard_m_game vs H Q E)
theorem useB_game {P : Program} {w : World} {K : PySem.W.Frag} {H : Hp} {Q : VK} {E : XK} {F : Foot} {G : List Pr} {hs : List Int} {ts : List (Key × V)} {pl pr : Addr} {ls rs : List Int} (Y : YardAt P w K H F G hs ts) (hpl : SqL K H pl (ls.map V.int)) (hpr : SqL K H pr (rs.map V.int)) (b : ¬ (∀ x ∈ ls ++ rs, 0 ≤ x ∧ x < G.length)) (q : ∀ H', Ex H H' → E (.ref (He.ga K "Unknown")) none H') : sp_Yard_m_game P w K (.ref F.y :: ([.ref pl, .ref pr] ++ [])) H Q E := Or.inr ⟨F, G, hs, ts, pl, pr, ls, rs, rfl, Y, hpl, hpr, b, q⟩
def sp_law_put (K : PySem.W.Frag) : Sp := fun vs H Q _ => ∃ (Z : Addr → Prop) (m hp pl pr : Addr) (G : List Pr) (hts ls rs : List Int), vs = [.ref m, .ref hp, .ref pl, .ref pr] ∧ ModAt Z H m G ∧ H hp = some (.lst (hts.map V.int)) ∧ hts.length = G.length ∧ Z m ∧ Z hp ∧ (∀ c, Z c → H c ≠ none) ∧
  SqL K H pl (ls.map V.int) ∧ SqL K H pr (rs.map V.int) ∧ (∀ x ∈ ls, 0 ≤ x ∧ x < G.length) ∧ (∀ x ∈ rs, 0 ≤ x ∧ x < G.length) ∧ m ≠ hp ∧ G.length ≤ 1000 ∧
  ∀ (as bs : List Int) (i : Int) (G' : List Pr) (hts' : List Int) (H' : Hp), AscOf ls as → AscOf rs bs → (∀ c o, H c = some o → c ≠ m → c ≠ hp → H' c = some o) → ModAt Z H' m G' → H' hp = some (.lst (hts'.map V.int)) → hts'.length = G'.length → Put G (as, bs) i G' → HgtL G hts (as, bs) hts' → Q (.int i) H'
abbrev N_law_put : List Str := ["model", "heights", "lefts", "rights", "form", "k"]
def t_law_put (K : PySem.W.Frag) (E : XK) : TS := (tSeq (tAsg (tTup (tCons (tLc (iRng1 (tCons (tCB (rLenQ K) (tCons (tVar 0) tNil)) tNil)) (gName 5) (tTest (tOp (rIn K false) (tVar 5) (tVar 2))) (tVar 5) [5]) (tCons (tLc (iRng1 (tCons (tCB (rLenQ K) (tCons (tVar 0) tNil)) tNil)) (gName 5) (tTest (tOp (rIn K false) (tVar 5) (tVar 3))) (tVar 5) [5]) tNil))) (gName 4)) (tSeq (tFor (iRng1 (tCons (tCB (rLenQ K) (tCons (tVar 0) tNil)) tNil)) (gName 5) (tIfS (tTest (tOp (rEqD K) (tOp (rIxL K) (tVar 0) (tVar 5)) (tVar 4))) (tRet (tVar 5)) tNext)) (tSeq (tDrop (tBM K "list" rAppend (tVar 0) (tCons (tVar 4) tNil))) (tSeq (tDrop (tBM K "list" rAppend (tVar 1) (tCons (tCB (rMax K) (tCons (tOp rCat (tLst (tCons (tC (.int 0)) tNil)) (tLc (iList K (tOp rCat (tOp (rIxT K) (tVar 4) (tC (.int 0))) (tOp (rIxT K) (tVar 4) (tC (.int 1))))) (gName 5) tYes (tOp rAddI (tC (.int 1)) (tOp (rIxL K) (tVar 1) (tVar 5))) [5])) tNil)) tNil))) (tRet (tOp rSubI (tCB (rLenQ K) (tCons (tVar 0) tNil)) (tC (.int 1))))))))
theorem len_law_put {K : PySem.W.Frag} {vs : List V} {H : Hp} {Q : VK} {E : XK} (h : sp_law_put K vs H Q E) : vs.length = 4 := by
  obtain ⟨_, _, _, _, _, _, _, _, _, rfl, _⟩ := h; rfl
theorem FormsAt.snoc {Z : Addr → Prop} {H : Hp} {xs : List V} {G : List Pr} (f : FormsAt Z H xs G) {a : Addr} {g : Pr} (h : FormAt Z H a g) : FormsAt Z H (xs ++ [.ref a]) (G ++ [g]) := by
  refine ⟨by rw [List.length_append, List.length_append, f.1]; rfl, fun i g' z => ?_⟩
  by_cases hi : i < G.length
  · rw [List.getElem?_append_left hi] at z
    obtain ⟨b, h1, h2⟩ := f.2 i g' z
    exact ⟨b, by rw [List.getElem?_append_left (by rw [f.1]; exact hi)]; exact h1, h2⟩
  · have hi2 : i = G.length := by
      have := (List.getElem?_eq_some_iff.mp z).1
      rw [List.length_append, List.length_singleton] at this
      omega
    subst hi2
    rw [List.getElem?_append_right (Nat.le_refl _), Nat.sub_self] at z
    have e2 : g' = g := by injection z with z; exact z.symm
    subst e2
    exact ⟨a, by rw [← f.1, List.getElem?_append_right (Nat.le_refl _), Nat.sub_self]; rfl, h⟩
theorem in_kept {G : List Pr} {ls : List Int} (b : ∀ x ∈ ls, 0 ≤ x ∧ x < (G.length : Int)) : AscOf ls (kept G.length fun i => decide ((i : Int) ∈ ls)) := by
  refine ⟨(kept_asc _ _).1, fun k => ?_⟩
  rw [mem_kept]
  constructor
  · rintro ⟨i, rfl, _, h⟩; exact of_decide_eq_true h
  · intro h
    have := b k h
    exact ⟨k.toNat, by omega, by omega, by rw [show ((k.toNat : Nat) : Int) = k by omega]; exact decide_eq_true h⟩
theorem pure_law_put {K : PySem.W.Frag} (vs : List V) (H : Hp) (Q : VK) (E : XK) (h : sp_law_put K vs H Q E) : t_law_put K E { nx := fun _ H' => Q .non H', rt := Q } (start N_law_put vs) H := by
  obtain ⟨Z, m, hp, pl, pr, G, hts, ls, rs, rfl, M, hh, hlen, zm, zh, alive, hpl, hpr, bl, br, ne, big, q⟩ := h
  obtain ⟨xs, hm, fs⟩ := M
  have xl : xs.length = G.length := fs.1
  have A1 := in_kept bl
  have A2 := in_kept br
  have small : G.length < sizeLine := Nat.lt_of_le_of_lt big (by decide)
  unfold t_law_put
  repeat walk_at "mst"
  refine ⟨_, rfl, by omega, by omega, ?_⟩
  rw [Int.toNat_natCast, xl]
  refine lcR_rng (fun i => if decide ((i : Int) ∈ ls) = true then some (V.int i) else none) small (fun i hi => ?_) fun D1 H1 nD1 e1 hD1 => ?_
  · refine turn_flt fun H' e R r => ?_
    have hpl' := Evl.ex_l e hpl
    repeat walk_at "mst"
    exact r
  rw [kept_map] at hD1
  have hm1 := e1 _ _ hm
  repeat walk_at "mst"
  refine ⟨_, rfl, by omega, by omega, ?_⟩
  rw [Int.toNat_natCast, xl]
  refine lcR_rng (fun i => if decide ((i : Int) ∈ rs) = true then some (V.int i) else none) small (fun i hi => ?_) fun D2 H2 nD2 e2 hD2 => ?_
  · refine turn_flt fun H' e R r => ?_
    have hpr' := Evl.ex_l (e1.trans e) hpr
    repeat walk_at "mst"
    exact r
  rw [kept_map] at hD2
  generalize kept G.length (fun i => decide ((i : Int) ∈ ls)) = as at *
  generalize kept G.length (fun i => decide ((i : Int) ∈ rs)) = bs at *
  repeat walk_at "mst"
  refine ⟨by show 2 ≤ sizeLine; decide, fun f nf => ?_⟩
  have e3 := Evl.Ex.new (o := HO.tup [V.ref D1, V.ref D2]) nf
  have s3 : upd H2 f (HO.tup [V.ref D1, V.ref D2]) f = some (HO.tup [V.ref D1, V.ref D2]) := upd_same
  generalize upd H2 f (HO.tup [V.ref D1, V.ref D2]) = H3 at *
  have e03 := e1.trans (e2.trans e3)
  have hm3 := e03 _ _ hm
  have hh3 := e03 _ _ hh
  have fs3 := fs.ex e03
  have hD13 := e3 _ _ (e2 _ _ hD1)
  have hD23 := e3 _ _ hD2
  have nD20 : H D2 = none := by
    cases z : H D2 with
    | none => rfl
    | some o => rw [e1 _ _ z] at nD2; cases nD2
  have F3 : FormAt Z H3 f (as, bs) := ⟨D1, D2, s3, hD13, hD23, fun z => alive _ z nD1, fun z => alive _ z nD20⟩
  repeat walk_at "mst"
  refine ⟨_, rfl, by omega, by omega, ?_⟩
  rw [Int.toNat_natCast, xl]
  refine forK_range (fun i σ H' => H' = H3 ∧ (∀ j, j < i → G[j]? ≠ some (as, bs)) ∧ ∃ x : Option V, σ = [some (.ref m), some (.ref hp), some (.ref pl), some (.ref pr), some (.ref f), x]) ⟨rfl, fun j h => absurd h (Nat.not_lt_zero _), none, rfl⟩ ?_ ?_
  · rintro i σ H' hi ⟨rfl, no, x, rfl⟩
    obtain ⟨a, ha, fa⟩ := fs3.2 i G[i] (List.getElem?_eq_getElem hi)
    repeat walk_at "mst"
    refine k_ixL (k_sq hm3) (atI_nat ha) ?_
    repeat walk_at "mst"
    refine k_eqF fa F3 ?_
    repeat walk_at "mst"
    refine k_iteD (fun h => ?_) (fun h => ?_)
    · repeat walk_at "mst"
      have hk : G[i]? = some (as, bs) := by rw [List.getElem?_eq_getElem hi, h]
      exact q as bs i G hts H' A1 A2 (fun c o z _ _ => e03 c o z) ⟨xs, hm3, fs3⟩ hh3 hlen (Or.inl ⟨i, rfl, hk, rfl⟩) (Or.inl ⟨List.mem_of_getElem? hk, rfl⟩)
    · repeat walk_at "mst"
      refine ⟨rfl, fun j hj => ?_, _, rfl⟩
      rcases Nat.lt_or_ge j i with c | c
      · exact no j c
      · have : j = i := by omega
        subst this
        rw [List.getElem?_eq_getElem hi]
        exact fun z => h (Option.some.inj z)
  · rintro σ H' ⟨rfl, no, x, rfl⟩
    have nin : (as, bs) ∉ G := fun mm => by
      obtain ⟨j, hj⟩ := List.mem_iff_getElem?.mp mm
      exact no j (List.getElem?_eq_some_iff.mp hj).1 hj
    have la := (A1.asc bl).len
    have lb := (A2.asc br).len
    repeat walk_at "mst"
    · rw [xl]; exact small
    have b4 : ∀ c u, H' c = some u → c ≠ m → upd H' m (HO.lst (xs ++ [V.ref f])) c = some u := fun c u z y => (upd_ne y).trans z
    have s4 : upd H' m (HO.lst (xs ++ [V.ref f])) m = some (HO.lst (xs ++ [V.ref f])) := upd_same
    generalize upd H' m (HO.lst (xs ++ [V.ref f])) = H4 at *
    have nl : ∀ c ys, H c = none → H' c = some (HO.lst ys) → c ≠ m := fun c ys h1 _ z => by subst z; rw [h1] at hm; cases hm
    have hD14 := b4 _ _ hD13 (nl _ _ nD1 hD13)
    have hD24 := b4 _ _ hD23 (nl _ _ nD20 hD23)
    have s34 := b4 _ _ s3 (ne_of s3 hm3 (by intro z; cases z))
    have hh4 := b4 _ _ hh3 ne.symm
    repeat walk_at "mst"
    refine ⟨by show 1 ≤ sizeLine; decide, fun z nz => ?_⟩
    have e5 := Evl.Ex.new (o := HO.lst [V.int 0]) nz
    have s5 : upd H4 z (HO.lst [V.int 0]) z = some (HO.lst [V.int 0]) := upd_same
    generalize upd H4 z (HO.lst [V.int 0]) = H5 at *
    have s35 := e5 _ _ s34
    have hD15 := e5 _ _ hD14
    have hD25 := e5 _ _ hD24
    repeat walk_at "mst"
    refine k_rCat hD15 hD25 (by rw [List.length_map, List.length_map]; exact Nat.le_trans (show _ ≤ 2000 by omega) (by decide)) fun u nu => ?_
    rw [← List.map_append]
    have e6 := Evl.Ex.new (o := HO.lst ((as ++ bs).map V.int)) nu
    have s6 : upd H5 u (HO.lst ((as ++ bs).map V.int)) u = some (HO.lst ((as ++ bs).map V.int)) := upd_same
    generalize upd H5 u (HO.lst ((as ++ bs).map V.int)) = H6 at *
    have hh6 := e6 _ _ (e5 _ _ hh4)
    refine ⟨u, rfl, ⟨_, k_sq s6⟩, lcR_list (K := K) (onI (fun k => 1 + hat hts k)) (k_sq s6) (by rw [List.length_map, List.length_append]; exact Nat.lt_of_le_of_lt (show _ ≤ 2000 by omega) (by decide)) (fun x hx => ?_) fun D3 H7 nD3 e7 hD3 => ?_⟩
    · obtain ⟨k, hk, rfl⟩ := List.mem_map.mp hx
      have bk : 0 ≤ k ∧ k < G.length := by
        rcases List.mem_append.mp hk with h | h
        · exact (A1.asc bl).2 k h
        · exact (A2.asc br).2 k h
      refine turn_map fun H' e R r => ?_
      have hh' := e _ _ hh6
      repeat walk_at "mst"
      refine k_ixL (k_sq hh') (hat_at hlen bk.1 bk.2) ?_
      repeat walk_at "mst"
      exact r
    · rw [onI_map] at hD3
      have e57 := e6.trans e7
      have s57 := e57 _ _ s5
      have hh7 := e57 _ _ (e5 _ _ hh4)
      repeat walk_at "mst"
      refine k_rCat s57 hD3 (by rw [List.length_map, List.length_map, List.length_append]; exact Nat.le_trans (show _ ≤ 2001 by show 1 + _ ≤ 2001; omega) (by decide)) fun v nv => ?_
      have ev : ([V.int 0] : List V) ++ ((as ++ bs).map fun k => 1 + hat hts k).map V.int = (0 :: (as ++ bs).map fun k => 1 + hat hts k).map V.int := rfl
      rw [ev]
      have e8 := Evl.Ex.new (o := HO.lst ((0 :: (as ++ bs).map fun k => 1 + hat hts k).map V.int)) nv
      have s8 : upd H7 v (HO.lst ((0 :: (as ++ bs).map fun k => 1 + hat hts k).map V.int)) v = some (HO.lst ((0 :: (as ++ bs).map fun k => 1 + hat hts k).map V.int)) := upd_same
      generalize upd H7 v (HO.lst ((0 :: (as ++ bs).map fun k => 1 + hat hts k).map V.int)) = H8 at *
      have e48 := e5.trans (e57.trans e8)
      have hh8 := e48 _ _ hh4
      have hm8 := e48 _ _ s4
      repeat walk_at "mst"
      refine k_rMaxL (k_sq s8) (by simp) fun mx mm ml => ?_
      repeat walk_at "mst"
      · exact k_sizeL (by rw [hlen]; omega)
      have b9 : ∀ c u, H8 c = some u → c ≠ hp → upd H8 hp (HO.lst (hts.map V.int ++ [V.int mx])) c = some u := fun c u z y => (upd_ne y).trans z
      have s9 : upd H8 hp (HO.lst (hts.map V.int ++ [V.int mx])) hp = some (HO.lst ((hts ++ [mx]).map V.int)) := by rw [upd_same]; simp
      generalize upd H8 hp (HO.lst (hts.map V.int ++ [V.int mx])) = H9 at *
      have hm9 := b9 _ _ hm8 ne
      repeat walk_at "mst"
      have ei : (((xs ++ [V.ref f]).length : Nat) : Int) - 1 = (G.length : Int) := by rw [List.length_append, List.length_singleton, xl]; omega
      rw [ei]
      have all : ∀ c o, H' c = some o → c ≠ m → c ≠ hp → H9 c = some o := fun c o z h1 h2 => b9 _ _ (e48 _ _ (b4 _ _ z h1)) h2
      have nhp : ∀ c ys, H c = none → H' c = some (HO.lst ys) → c ≠ hp := fun c ys h1 _ z => by subst z; rw [h1] at hh; cases hh
      have tupn : ∀ c zs, H' c = some (HO.tup zs) → H9 c = some (HO.tup zs) := fun c zs z => all _ _ z (ne_of z hm3 (by intro y; cases y)) (ne_of z hh3 (by intro y; cases y))
      refine q as bs (G.length : Int) (G ++ [(as, bs)]) (hts ++ [mx]) H9 A1 A2 (fun c o z h1 h2 => all _ _ (e03 _ _ z) h1 h2) ⟨_, hm9, ?_⟩ s9 (by rw [List.length_append, List.length_append, hlen]; rfl) (Or.inr ⟨nin, rfl, rfl⟩) (Or.inr ⟨nin, mx, rfl, mm, ml⟩)
      exact (fs3.keep (fun c o z h => all _ _ z (fun y => h (y ▸ zm)) (fun y => h (y ▸ zh))) tupn).snoc (F3.keep (fun c o z h => all _ _ z (fun y => h (y ▸ zm)) (fun y => h (y ▸ zh))) tupn)
theorem use_put {K : PySem.W.Frag} {H : Hp} {Q : VK} {E : XK} {Z : Addr → Prop} {m hp pl pr : Addr} {G : List Pr} {hts ls rs : List Int} (M : ModAt Z H m G) (hh : H hp = some (.lst (hts.map V.int))) (hl : hts.length = G.length) (zm : Z m) (zh : Z hp) (alive : ∀ c, Z c → H c ≠ none)
    (h1 : SqL K H pl (ls.map V.int)) (h2 : SqL K H pr (rs.map V.int)) (b1 : ∀ x ∈ ls, 0 ≤ x ∧ x < (G.length : Int)) (b2 : ∀ x ∈ rs, 0 ≤ x ∧ x < (G.length : Int)) (ne : m ≠ hp) (big : G.length ≤ 1000)
    (q : ∀ (as bs : List Int) (i : Int) (G' : List Pr) (hts' : List Int) (H' : Hp), AscOf ls as → AscOf rs bs → (∀ c o, H c = some o → c ≠ m → c ≠ hp → H' c = some o) → ModAt Z H' m G' → H' hp = some (.lst (hts'.map V.int)) → hts'.length = G'.length → Put G (as, bs) i G' → HgtL G hts (as, bs) hts' → Q (.int i) H') :
    sp_law_put K ([.ref m, .ref hp, .ref pl, .ref pr] ++ []) H Q E := ⟨Z, m, hp, pl, pr, G, hts, ls, rs, rfl, M, hh, hl, zm, zh, alive, h1, h2, b1, b2, ne, big, q⟩
/-- thing: an int -/
def sp_law_is_integer (K : PySem.W.Frag) : Sp := spR (fun vs H => ∃ i : Int, vs = [.int i]) (fun vs H v H' => v = .bl true ∧ H' = H)
abbrev N_law_is_integer : List Str := ["thing"]
def t_law_is_integer (K : PySem.W.Frag) (E : XK) : TS := (tRet (tAndV (tCB (rIsi K) (tCons (tVar 0) (tCons (tC (.ty "int")) tNil))) (tNotV (tCB (rIsi K) (tCons (tVar 0) (tCons (tC (.ty "bool")) tNil))))))
theorem len_law_is_integer {K : PySem.W.Frag} {vs : List V} {H : Hp} {Q : VK} {E : XK} (h : sp_law_is_integer K vs H Q E) : vs.length = 1 := by
  obtain ⟨⟨_, rfl⟩, _⟩ := h; rfl
theorem pure_law_is_integer {K : PySem.W.Frag} (vs : List V) (H : Hp) (Q : VK) (E : XK) (h : sp_law_is_integer K vs H Q E) : t_law_is_integer K E { nx := fun _ H' => Q .non H', rt := Q } (start N_law_is_integer vs) H := by
  obtain ⟨⟨i, rfl⟩, q⟩ := h
  unfold t_law_is_integer
  repeat walk_at "mst"
  exact q _ _ ⟨rfl, rfl⟩
theorem use_is_integer {K : PySem.W.Frag} {H : Hp} {Q : VK} {E : XK} {i : Int} (q : Q (.bl true) H) : sp_law_is_integer K ([.int i] ++ []) H Q E :=
  ⟨⟨i, rfl⟩, fun _ _ ⟨e, e'⟩ => by rw [e, e']; exact q⟩
local macro_rules | `(tactic| walk_at "mst") => `(tactic| with_reducible refine use_is_integer ?_)
def sp_Yard_m_size (K : PySem.W.Frag) : Sp := fun vs H Q _ => ∃ (F : Foot) (xs : List V), vs = [.ref F.y] ∧ H F.y = some (.ins (He.ga K "Yard") F.dx (yfs F)) ∧ H F.l = some (.lst xs) ∧ Q (.int (xs.length : Int)) H
abbrev N_Yard_m_size : List Str := ["self"]
def t_Yard_m_size (K : PySem.W.Frag) (E : XK) : TS := (tRet (tCB (rLenQ K) (tCons (tFld K (tVar 0) "_lefts") tNil)))
theorem len_Yard_m_size {K : PySem.W.Frag} {vs : List V} {H : Hp} {Q : VK} {E : XK} (h : sp_Yard_m_size K vs H Q E) : vs.length = 1 := by
  obtain ⟨_, _, rfl, _⟩ := h; rfl
theorem pure_Yard_m_size {K : PySem.W.Frag} (FY : FYard K) (vs : List V) (H : Hp) (Q : VK) (E : XK) (h : sp_Yard_m_size K vs H Q E) : t_Yard_m_size K E { nx := fun _ H' => Q .non H', rt := Q } (start N_Yard_m_size vs) H := by
  obtain ⟨F, xs, rfl, hi, hl, q⟩ := h
  unfold t_Yard_m_size
  repeat walk_at "mst"
  exact q
theorem use_size {P : Program} {w : World} {K : PySem.W.Frag} {H : Hp} {Q : VK} {E : XK} {F : Foot} {G : List Pr} {hs : List Int} {ts : List (Key × V)} (Y : YardAt P w K H F G hs ts) (q : Q (.int (G.length : Int)) H) : sp_Yard_m_size K [.ref F.y] H Q E := by
  obtain ⟨xs, hl, rows⟩ := Y.ls
  have : xs.length = G.length := by rw [rows.1, List.length_map]
  exact ⟨F, xs, rfl, Y.ins, hl, by rw [this]; exact q⟩
def sp_law_turn (P : Program) (w : World) (K : PySem.W.Frag) : Sp := fun vs H Q _ => ∃ (Z : Addr → Prop) (A : Adr) (M G : List Pr) (hts hs ns : List Int) (ts : List (Key × V)) (k : Nat), vs = [.ref A.F.y, .ref A.st, .int k] ∧ Sd P w K Z H A M G hts hs ns ts ∧ k < M.length ∧ Phi G ts ≤ 190 ∧
  ∀ (M' G' : List Pr) (hts' hs' ns' : List Int) (ts' : List (Key × V)) (H' : Hp), GrA A H H' → Sd P w K Z H' A M' G' hts' hs' ns' ts' → Phi G' ts' ≤ Phi G ts → Q (.bl true) H'
abbrev N_law_turn : List Str := ["yard", "state", "at", "model", "numbers", "told", "turned", "form", "k", "lefts", "option", "rights", "i"]
def t_law_turn (P : Program) (w : World) (K : PySem.W.Frag) (E : XK) : TS := (tSeq (tAsg (tOp (rIxT K) (tVar 1) (tC (.int 0))) (gName 3)) (tSeq (tAsg (tOp (rIxT K) (tVar 1) (tC (.int 2))) (gName 4)) (tSeq (tAsg (tMeth (He.ga K "Yard") "turned" (sp_Yard_m_turned P w K) [] E0 (tVar 0) (tCons (tOp (rIxL K) (tVar 4) (tVar 2)) tNil)) (gName 5)) (tSeq (tAsg (tLc (iList K (tVar 3)) (gName 7) tYes (tC (.int 0)) [7]) (gName 6)) (tSeq (tFor (iList K (tCall (sp_law_followers K) [] E0 (tCons (tVar 3) (tCons (tVar 2) tNil)))) (gName 8) (tSeq (tAsg (tLc (iList K (tOp (rIxT K) (tOp (rIxL K) (tVar 3) (tVar 8)) (tC (.int 1)))) (gName 10) tYes (tOp (rIxL K) (tVar 6) (tVar 10)) [10]) (gName 9)) (tSeq (tAsg (tLc (iList K (tOp (rIxT K) (tOp (rIxL K) (tVar 3) (tVar 8)) (tC (.int 0)))) (gName 10) tYes (tOp (rIxL K) (tVar 6) (tVar 10)) [10]) (gName 11)) (tAsg (tCall (sp_law_put K) [] E0 (tCons (tVar 3) (tCons (tOp (rIxT K) (tVar 1) (tC (.int 1))) (tCons (tVar 9) (tCons (tVar 11) tNil))))) (gSub (tVar 6) (tVar 8) L2.rSetL))))) (tSeq (tIfS (tOr (tNot (tB (tCall (sp_law_is_integer K) [] E0 (tCons (tProp (He.ga K "Yard") (sp_Yard_m_size K) [] E0 (tVar 0)) tNil)))) (tTest (tOp rNe (tProp (He.ga K "Yard") (sp_Yard_m_size K) [] E0 (tVar 0)) (tCB (rLenQ K) (tCons (tVar 3) tNil))))) (tRet (tC (.bl false))) tNext) (tSeq (tFor (iRng2 (tCons (tCB (rLenQ K) (tCons (tVar 4) tNil)) (tCons (tCB (rLenQ K) (tCons (tVar 3) tNil)) tNil))) (gName 8) (tDrop (tBM K "list" rAppend (tVar 4) (tCons (tMeth (He.ga K "Yard") "game" (sp_Yard_m_game P w K) [] E0 (tVar 0) (tCons (tLc (iList K (tOp (rIxT K) (tOp (rIxL K) (tVar 3) (tVar 8)) (tC (.int 0)))) (gName 12) tYes (tOp (rIxL K) (tVar 4) (tVar 12)) [12]) (tCons (tLc (iList K (tOp (rIxT K) (tOp (rIxL K) (tVar 3) (tVar 8)) (tC (.int 1)))) (gName 12) tYes (tOp (rIxL K) (tVar 4) (tVar 12)) [12]) tNil))) tNil)))) (tRet (tAndV (tCall (sp_law_is_integer K) [] E0 (tCons (tVar 5) tNil)) (tOp rEq (tVar 5) (tOp (rIxL K) (tVar 4) (tOp (rIxL K) (tVar 6) (tVar 2)))))))))))))
theorem len_law_turn {P : Program} {w : World} {K : PySem.W.Frag} {vs : List V} {H : Hp} {Q : VK} {E : XK} (h : sp_law_turn P w K vs H Q E) : vs.length = 3 := by
  obtain ⟨_, _, _, _, _, _, _, _, _, rfl, _⟩ := h; rfl
theorem fd_set {tl : List Int} {k : Nat} {v : Int} {j : Int} (h : k < tl.length) (h0 : 0 ≤ j) : fd (tl.set k v) j = if j = (k : Int) then v else fd tl j := by
  unfold fd
  rw [List.getD_eq_getElem?_getD, List.getElem?_set, List.getD_eq_getElem?_getD]
  by_cases e : j = (k : Int)
  · subst e; rw [if_pos (by omega), if_pos rfl, if_pos (by omega)]; rfl
  · rw [if_neg (by omega), if_neg e]
theorem gr_all {M G : List Pr} {ns : List Int} {ts : List (Key × V)} {k j : Int} {t : Int} (I : Emb M G ns) (FM : Forms M) (T : TOk G ts) (hk : 0 ≤ k ∧ k < (M.length : Int)) (r0 : gr ts (nat_ ns k) t) (r : Rch M (dkey []) k j) : ∃ tf, gr ts (nat_ ns j) tf := by
  induction r with
  | root _ => exact ⟨t, r0⟩
  | @step i x g r hg m _ ih =>
    obtain ⟨tf, ht⟩ := ih
    have bi : 0 ≤ i ∧ i < (M.length : Int) := by have := Rch.bound FM hk r; omega
    have e := nat_get (ns := ns) bi.1 bi.2 I.len
    obtain ⟨q, hq, t1, t2⟩ := I.fm _ _ _ hg e
    obtain ⟨a, b, g', h', ea, eb, hg', hh', i1, i2⟩ := T.bis _ _ ht
    rw [ea, Int.toNat_natCast, hg'] at hq
    cases hq
    rcases List.mem_append.mp m with m | m
    · obtain ⟨y, _, ry⟩ := i2.1 _ ((t1.2 _).mpr ⟨x, m, rfl⟩)
      exact ⟨y, ry⟩
    · obtain ⟨y, _, ry⟩ := i1.1 _ ((t2.2 _).mpr ⟨x, m, rfl⟩)
      exact ⟨y, ry⟩
theorem pure_law_turn {P : Program} {w : World} {K : PySem.W.Frag} (vs : List V) (H : Hp) (Q : VK) (E : XK) (h : sp_law_turn P w K vs H Q E) : t_law_turn P w K E { nx := fun _ H' => Q .non H', rt := Q } (start N_law_turn vs) H := by
  obtain ⟨Z, A, M, G, hts, hs, ns, ts, k, rfl, S, hk, few, q⟩ := h
  have hst := S.st
  have nsl := S.I.len
  have gl := S.I.len2
  have pg := phi_le G ts
  have rng := S.I.rng _ (List.mem_of_getElem? (nat_get (ns := ns) (j := (k : Int)) (by omega) (by omega) nsl))
  unfold t_law_turn
  repeat walk_at "mst"
  refine S.Y.meth (by decide +kernel) (by decide +kernel) (by decide +kernel) (by decide +kernel) (by decide +kernel) ?_
  repeat walk_at "mst"
  refine k_ixL (k_sq S.hn) (nat_at (by omega) (by omega) nsl) ?_
  repeat walk_at "mst"
  refine use_turned S.Y S.T S.L ⟨rng.1, by omega⟩ (by omega) fun G1 hs1 ts1 t H1 g1 Y1 go1 T1 L1 gt1 nw1 ph1 => ?_
  have le1 : G.length ≤ G1.length := sub_len go1
  have pg1 := phi_le G1 ts1
  have I1 : Emb M G1 ns := S.I.toEmb.goes go1 le1
  have zo : ∀ c, ¬ Off A.F c → Z c := fun c h => S.own c (Or.inl h)
  have mo1 : ModAt Z H1 A.m M := mod_gr S.Y S.mo g1 S.off.1 zo
  have hh1 := g1 _ _ S.hh S.off.2.1
  have hn1 := g1 _ _ S.hn S.off.2.2
  have hst1 := g1 _ _ hst (S.Y.tup hst)
  have gA1 : GrA A H H1 := GrA.gr g1
  have sne : ∀ {H5 : Hp} {x : Addr} {o : HO}, H5 x = some o → H5 x ≠ none := fun h z => by rw [h] at z; cases z
  have al1 : ∀ c, Z c → H1 c ≠ none := gA1.al (fun x o => by
    rcases o with o | rfl | rfl | rfl
    · exact Y1.own_al o
    · obtain ⟨xs, hm, _⟩ := mo1; exact sne hm
    · exact sne hh1
    · exact sne hn1) S.al
  obtain ⟨xs, hm, fs⟩ := id mo1
  have xl : xs.length = M.length := fs.1
  repeat walk_at "mst"
  refine ⟨A.m, rfl, ⟨_, k_sq hm⟩, lcR_list (K := K) (fun _ => some (V.int 0)) (k_sq hm) (Nat.lt_of_le_of_lt (show _ ≤ 200 by omega) (by decide)) (fun x hx => ?_) fun D H2 nD e2 hD => ?_⟩
  · refine turn_map fun H'' e R r => ?_
    repeat walk_at "mst"
    exact r
  have eD : xs.filterMap (fun _ => some (V.int 0)) = (List.replicate M.length (0 : Int)).map V.int := by
    rw [← xl, List.map_replicate]
    clear hm fs xl hD
    induction xs with
    | nil => rfl
    | cons x xs ih => rw [List.filterMap_cons, List.length_cons, List.replicate_succ, ih]
  rw [eD] at hD
  repeat walk_at "mst"
  refine use_lfollowers (mo1.up e2) S.FM hk (by omega) fun f rs H3 nf e3 hf rasc rmem => ?_
  have hD3 := e3 _ _ hD
  have dfD : f ≠ D := (ne_of_none hD nf).symm
  have e13 := e2.trans e3
  have nf1 : H1 f = none := Evl.fresh_back e2 nf
  have Y3 := Y1.ex e13
  have Dm : D ≠ A.m := fun e => by rw [e, hm] at nD; cases nD
  have Dh : D ≠ A.hp := fun e => by rw [e, hh1] at nD; cases nD
  have Dn : D ≠ A.np := fun e => by rw [e, hn1] at nD; cases nD
  have fm : f ≠ A.m := fun e => by rw [e, hm] at nf1; cases nf1
  have fh : f ≠ A.hp := fun e => by rw [e, hh1] at nf1; cases nf1
  have rb : ∀ x ∈ rs, 0 ≤ x ∧ x < (M.length : Int) := fun x m => by
    have := ((rmem x).mp m).bound S.FM ⟨by omega, by omega⟩
    omega
  have al3 : ∀ c, Z c → H3 c ≠ none := fun c z n => al1 c z (by
    cases h : H1 c with
    | none => rfl
    | some o => rw [e13 _ _ h] at n; cases n)
  have zD : ¬ Z D := fun z => al1 _ z nD
  have onD : Off A.F D := Y1.fresh nD
  refine ⟨f, rfl, ⟨_, k_sq hf⟩, forK_list (xs := rs.map V.int) (fun n σ H' => ∃ (M' : List Pr) (hts' e tl : List Int) (x8 x9 x10 x11 : Option V), (∀ c o, H3 c = some o → c ≠ A.m → c ≠ A.hp → c ≠ D → H' c = some o) ∧ ModAt (fun c => Z c ∨ c = D) H' A.m M' ∧ H' A.hp = some (.lst (hts'.map V.int)) ∧ hts'.length = M'.length ∧ H' D = some (.lst (tl.map V.int)) ∧ tl.length = M.length ∧
      Emb M' G1 (ns ++ e) ∧ Forms M' ∧ HtOk M' hts' ∧ Four M' ∧ (∀ (i : Nat) (g : Pr), M[i]? = some g → M'[i]? = some g) ∧ (∀ y ∈ rs.take n, (0 ≤ fd tl y ∧ fd tl y < (M'.length : Int)) ∧ gr ts1 (nat_ (ns ++ e) y) (nat_ (ns ++ e) (fd tl y))) ∧ (∀ c, (Z c ∨ c = D) → H' c ≠ none) ∧
      σ = [some (.ref A.F.y), some (.ref A.st), some (.int (k : Int)), some (.ref A.m), some (.ref A.np), some (.int t), some (.ref D), none, x8, x9, x10, x11, none])
    ⟨M, hts, [], List.replicate M.length 0, none, none, none, none, fun c o h _ _ _ => h, (mod_more mo1 nD).up e13, e13 _ _ hh1, S.hl, hD3, List.length_replicate, by rw [List.append_nil]; exact I1, S.FM, S.O, S.four, fun _ _ h => h, fun y m => (nomatch m), fun c z => z.elim (al3 c) fun e => (e ▸ sne hD3), rfl⟩ ?_ ?_ ?_⟩
  · rintro n σ H' _ ⟨_, _, _, _, _, _, _, _, fr, _⟩; exact k_sq (fr _ _ hf fm fh dfD)
  · rintro n x σ H' hx ⟨M', hts', e, tl, x8, x9, x10, x11, fr, mo, hh, hl, hD', tll, I', FM', O', f4', sub, done, al, rfl⟩
    obtain ⟨z, hz, rfl⟩ := get_int hx
    have mz := List.mem_of_getElem? hz
    have bz := rb z mz
    obtain ⟨fn, rfl⟩ : ∃ n : Nat, z = n := ⟨z.toNat, by omega⟩
    have il := I'.len
    rw [List.length_append] at il
    have Ml := I'.le
    have hM : M[fn]? = some (M[fn]'(by omega)) := List.getElem?_eq_getElem _
    have hM' := sub _ _ hM
    have am := S.FM.asc fn _ hM
    have f4 := S.four _ (List.mem_of_getElem? hM)
    generalize M[fn]'(by omega) = pf at *
    obtain ⟨xs', hm', fs'⟩ := id mo
    obtain ⟨fa, hfa, c, d, hp, hc, hd, zc, zd⟩ := fs'.2 fn pf hM'
    have ml : M.length ≤ M'.length := sub_len sub
    have inn : ∀ o ∈ pf.1 ++ pf.2, o ∈ rs.take n := fun o mo => by
      have bo := Asc.both am.1 am.2 o mo
      have ro : o ∈ rs := (rmem o).mpr (.step ((rmem _).mp mz) (by rw [Int.toNat_natCast]; exact hM) mo (dkey_nil _))
      obtain ⟨j, hj⟩ := List.mem_iff_getElem?.mp ro
      have jl := (List.getElem?_eq_some_iff.mp hj).1
      have nl := (List.getElem?_eq_some_iff.mp hz).1
      have jn : j < n := by
        rcases Nat.lt_or_ge j n with h | h
        · exact h
        · rcases Nat.lt_or_eq_of_le h with h | h
          · have pw := List.pairwise_iff_getElem.mp rasc n j nl jl h
            rw [(List.getElem?_eq_some_iff.mp hj).2, (List.getElem?_eq_some_iff.mp hz).2] at pw
            omega
          · subst h
            rw [hz] at hj
            cases hj
            omega
      exact List.mem_of_getElem? (by rw [List.getElem?_take, if_pos jn]; exact hj)
    repeat walk_at "mst"
    refine k_ixL (k_sq hm') (atI_nat hfa) ?_
    repeat walk_at "mst"
    refine ⟨d, rfl, ⟨_, k_sq hd⟩, lcR_list (K := K) (onI (fd tl)) (k_sq hd) (by rw [List.length_map]; exact Nat.lt_of_le_of_lt f4.2 (by decide)) (fun x hx => ?_) fun L1 H4 nL1 e4 hL1 => ?_⟩
    · obtain ⟨o, mo, rfl⟩ := List.mem_map.mp hx
      have bo := am.2.2 o mo
      refine turn_map fun H'' e R r => ?_
      have hD'' := e _ _ hD'
      repeat walk_at "mst"
      exact k_ixL (k_sq hD'') (fd_at bo.1 (by omega)) r
    rw [onI_map] at hL1
    have hm4 := e4 _ _ hm'
    have hp4 := e4 _ _ hp
    have hc4 := e4 _ _ hc
    have hD4 := e4 _ _ hD'
    repeat walk_at "mst"
    refine k_ixL (k_sq hm4) (atI_nat hfa) ?_
    repeat walk_at "mst"
    refine ⟨c, rfl, ⟨_, k_sq hc4⟩, lcR_list (K := K) (onI (fd tl)) (k_sq hc4) (by rw [List.length_map]; exact Nat.lt_of_le_of_lt f4.1 (by decide)) (fun x hx => ?_) fun L2 H5 nL2 e5 hL2 => ?_⟩
    · obtain ⟨o, mo, rfl⟩ := List.mem_map.mp hx
      have bo := am.1.2 o mo
      refine turn_map fun H'' e R r => ?_
      have hD'' := e _ _ hD4
      repeat walk_at "mst"
      exact k_ixL (k_sq hD'') (fd_at bo.1 (by omega)) r
    rw [onI_map] at hL2
    have e45 := e4.trans e5
    have mo5 := mo.up e45
    have hst5 : H5 A.st = some (.tup [.ref A.m, .ref A.hp, .ref A.np]) := e45 _ _ (fr _ _ (e13 _ _ hst1) (ne_of hst1 hm (by intro z; cases z)) (ne_of hst1 hh1 (by intro z; cases z)) (ne_of_none hst1 nD))
    have bnd : ∀ l : List Int, (∀ o ∈ l, o ∈ pf.1 ++ pf.2) → ∀ x ∈ l.map (fd tl), 0 ≤ x ∧ x < (M'.length : Int) := fun l s x m => by
      obtain ⟨o, mo, rfl⟩ := List.mem_map.mp m
      exact (done o (inn o (s o mo))).1
    have al5 : ∀ c, (Z c ∨ c = D) → H5 c ≠ none := fun c z n => al c z (by
      cases h : H' c with
      | none => rfl
      | some o => rw [e45 _ _ h] at n; cases n)
    have b1 := bnd pf.2 fun o m => List.mem_append_right _ m
    have b2 := bnd pf.1 fun o m => List.mem_append_left _ m
    repeat walk_at "mst"
    refine use_put mo5 (e45 _ _ hh) hl (Or.inl (S.own _ (Or.inr (Or.inl rfl)))) (Or.inl (S.own _ (Or.inr (Or.inr (Or.inl rfl))))) al5 (k_sq (e5 _ _ hL1)) (k_sq hL2) b1 b2 S.ne.1 (by omega) fun as bs i M2 hts2 H6 asc1 asc2 fr6 mo6 hh6 hl6 pm hg6 => ?_
    have hD6 := fr6 _ _ (e45 _ _ hD') Dm Dh
    repeat walk_at "mst"
    refine ⟨D, _, _, fn, rfl, rfl, hD6, by rw [List.length_map]; exact ix_nat (by omega) (by omega), ?_⟩
    have b7 : ∀ c o, H6 c = some o → c ≠ D → upd H6 D (HO.lst ((tl.map V.int).set fn (V.int i))) c = some o := fun c o h ne => (upd_ne ne).trans h
    have s7 : upd H6 D (HO.lst ((tl.map V.int).set fn (V.int i))) D = some (HO.lst ((tl.set fn i).map V.int)) := by rw [upd_same, List.map_set]
    generalize upd H6 D (HO.lst ((tl.map V.int).set fn (V.int i))) = H7 at *
    repeat walk_at "mst"
    have ap : Asc M'.length as ∧ Asc M'.length bs := ⟨asc1.asc b1, asc2.asc b2⟩
    obtain ⟨tf, htf⟩ := gr_all I1 S.FM T1 (k := (k : Int)) ⟨by omega, by omega⟩ gt1 ((rmem _).mp mz)
    rw [← nat_appL (e := e) (show (0 : Int) ≤ (fn : Int) by omega) (by omega)] at htf
    obtain ⟨ns2, I2, ei, gi, e', rfl⟩ := I'.mirror FM' Y1.G T1 hM' htf (tm := fd tl) (fun o m => (done o (inn o m)).2) ap (fun j => (asc1.2 j).trans List.mem_map) (fun j => (asc2.2 j).trans List.mem_map) pm
    have pl := pm.len
    have tl6 : (tl.set fn i).length = M.length := by rw [List.length_set, tll]
    obtain ⟨xs6, hm6, fs6⟩ := id mo6
    have mo7 : ModAt (fun c => Z c ∨ c = D) H7 A.m M2 := ⟨xs6, b7 _ _ hm6 Dm.symm, fs6.keep (fun c o h n => b7 _ _ h fun e => n (Or.inr e)) fun c ys h => b7 _ _ h (ne_of h hD6 (by intro y; cases y))⟩
    have k57 : ∀ c o, H5 c = some o → c ≠ A.m → c ≠ A.hp → c ≠ D → H7 c = some o := fun c o h a b d => b7 _ _ (fr6 _ _ h a b) d
    have fr7 : ∀ c o, H3 c = some o → c ≠ A.m → c ≠ A.hp → c ≠ D → H7 c = some o := fun c o h a b d => k57 _ _ (e45 _ _ (fr _ _ h a b d)) a b d
    have hh7 := b7 _ _ hh6 Dh.symm
    have al7 : ∀ c, (Z c ∨ c = D) → H7 c ≠ none := fun c z n => by
      by_cases a : c = A.m
      · subst a; obtain ⟨xs, hm, _⟩ := mo7; exact sne hm n
      · by_cases b : c = A.hp
        · subst b; exact sne hh7 n
        · by_cases dd : c = D
          · subst dd; exact sne s7 n
          · cases h : H5 c with
            | none => exact al5 c z h
            | some o => rw [k57 _ _ h a b dd] at n; cases n
    rw [List.append_assoc] at I2 gi
    refine ⟨M2, hts2, e ++ e', tl.set fn i, _, _, _, _, fr7, mo7, hh7, hl6, s7, tl6, I2, FM'.put pm ap.1 ap.2, sd_put hg6 pm O' hl FM' ap.1 ap.2, f4'.put pm (Nat.le_trans (asc_le asc1.1 asc1.2) (by rw [List.length_map]; exact f4.2)) (Nat.le_trans (asc_le asc2.1 asc2.2) (by rw [List.length_map]; exact f4.1)), fun i g h => put_sub pm i g (sub i g h), fun y my => ?_, al7, rfl⟩
    rw [List.take_add_one, hz] at my
    rcases List.mem_append.mp my with my | my
    · obtain ⟨bd, r⟩ := done y my
      have by_ := rb y (List.mem_of_mem_take my)
      have ny : y ≠ (fn : Int) := fun e => by
        obtain ⟨j, hj⟩ := List.mem_iff_getElem?.mp my
        have jl := (List.getElem?_eq_some_iff.mp hj).1
        rw [List.length_take] at jl
        rw [List.getElem?_take, if_pos (by omega)] at hj
        subst e
        have := nodup_at (rasc.imp fun h => Int.ne_of_lt h) hj hz
        omega
      rw [fd_set (by omega) by_.1, if_neg ny, ← List.append_assoc, nat_appL by_.1 (by rw [List.length_append]; omega), nat_appL bd.1 (by rw [List.length_append]; omega)]
      exact ⟨by omega, r⟩
    · have e0 : y = (fn : Int) := by simpa using my
      subst e0
      rw [fd_set (by omega) (by omega), if_pos rfl]
      exact ⟨⟨pl.2.2.1, pl.2.2.2⟩, gi⟩
  · rintro σ H' ⟨M', hts', e, tl, x8, x9, x10, x11, fr, mo, hh, hl, hD', tll, I', FM', O', f4', sub, done, al, rfl⟩
    have done' : ∀ y, Rch M (dkey []) (k : Int) y → (0 ≤ fd tl y ∧ fd tl y < (M'.length : Int)) ∧ gr ts1 (nat_ (ns ++ e) y) (nat_ (ns ++ e) (fd tl y)) := fun y r => done y (by
      rw [List.length_map, List.take_of_length_le (Nat.le_refl _)]; exact (rmem y).mpr r)
    have I2 := S.I.turned S.FM Y1.G T1 (k := (k : Int)) ⟨by omega, by omega⟩ nw1 I' done'
    have ml : M.length ≤ M'.length := sub_len sub
    have nl2 := I2.len
    have gl2 := I2.len2
    obtain ⟨xs', hm', fs'⟩ := id mo
    have xl' := fs'.1
    have Y' : YardAt P w K H' A.F G1 hs1 ts1 := Y3.stay (S := fun c => c = A.m ∨ c = A.hp ∨ c = D) (fun c o h n => fr _ _ h (fun e => n (Or.inl e)) (fun e => n (Or.inr (Or.inl e))) fun e => n (Or.inr (Or.inr e))) (fun c h n => h (by
      rcases n with rfl | rfl | rfl
      · exact S.off.1
      · exact S.off.2.1
      · exact onD)) (fun c ys z n => by
      rcases n with rfl | rfl | rfl
      · rw [e13 _ _ hm] at z; cases z
      · rw [e13 _ _ hh1] at z; cases z
      · rw [hD3] at z; cases z) fun c C dx fs z n => by
      rcases n with rfl | rfl | rfl
      · rw [e13 _ _ hm] at z; cases z
      · rw [e13 _ _ hh1] at z; cases z
      · rw [hD3] at z; cases z
    have hn' := fr _ _ (e13 _ _ hn1) S.ne.2.1.symm S.ne.2.2.symm Dn.symm
    have hst' : H' A.st = some (.tup [.ref A.m, .ref A.hp, .ref A.np]) := fr _ _ (e13 _ _ hst1) (ne_of hst1 hm (by intro z; cases z)) (ne_of hst1 hh1 (by intro z; cases z)) (ne_of_none hst1 nD)
    have gA' : GrA A H H' := gA1.trans fun c o h n => fr _ _ (e13 _ _ h) (fun e => n (Or.inr (Or.inl e))) (fun e => n (Or.inr (Or.inr (Or.inl e)))) (ne_of_none h nD)
    obtain ⟨bt, rt⟩ := done' k (.root (dkey_nil _))
    repeat walk_at "mst"
    refine ⟨A.F.y, A.F.dx, yfs A.F, rfl, Y'.ins, use_size Y' ?_⟩
    repeat walk_at "mst"
    refine ⟨A.F.y, A.F.dx, yfs A.F, rfl, Y'.ins, use_size Y' ?_⟩
    repeat walk_at "mst"
    refine k_iteD (fun h => absurd (show (G1.length : Int) = xs'.length by omega) h) (fun _ => ?_)
    repeat walk_at "mst"
    rw [List.length_map]
    repeat walk_at "mst"
    refine ⟨_, _, rfl, ⟨by omega, by omega, by omega, by omega⟩, ?_⟩
    rw [List.length_append] at nl2 gl2
    have en : ((xs'.length : Int) - (ns.length : Int)).toNat = e.length := by omega
    rw [en]
    generalize hall : ns ++ e = na at *
    have nal : na.length = ns.length + e.length := by rw [← hall, List.length_append]
    have tk0 : na.take ns.length = ns := by rw [← hall, List.take_left]
    refine for_range (lo := (ns.length : Int)) (n := e.length) (fun i σ H'' => ∃ (x8 x12 : Option V), (∀ c o, H' c = some o → ¬ A.own c ∨ c = A.m ∨ c = A.hp ∨ c = D → H'' c = some o) ∧ YardAt P w K H'' A.F G1 hs1 ts1 ∧ H'' A.np = some (.lst ((na.take (ns.length + i)).map V.int)) ∧ σ = [some (.ref A.F.y), some (.ref A.st), some (.int (k : Int)), some (.ref A.m), some (.ref A.np), some (.int t), some (.ref D), none, x8, x9, x10, x11, x12])
      ⟨_, none, fun c o h _ => h, Y', by rw [Nat.add_zero, tk0]; exact hn', rfl⟩ ?_ ?_
    · rintro i σ H'' hi ⟨y8, y12, kp, Y'', hn'', rfl⟩
      have hj : ns.length + i < M'.length := by omega
      obtain ⟨j, ej⟩ : ∃ j, ns.length + i = j := ⟨_, rfl⟩
      rw [show (ns.length : Int) + (i : Int) = (j : Int) by omega]
      rw [ej] at hn'' hj
      have hM : M'[j]? = some M'[j] := List.getElem?_eq_getElem hj
      have am := FM'.asc j _ hM
      have f4 := f4' _ (List.mem_of_getElem? hM)
      obtain ⟨fa, hfa, c, d, hp, hc, hd, zc, zd⟩ := fs'.2 j _ hM
      have eg := fun as bs => I2.toEmb.get hM (as := as) (bs := bs)
      generalize M'[j] = pf at *
      have own_c : ∀ c : Addr, ¬ (Z c ∨ c = D) → ¬ A.own c := fun c n o => n (Or.inl (S.own c o))
      have hm'' := kp _ _ hm' (Or.inr (Or.inl rfl))
      have hp'' : H'' fa = some (.tup [.ref c, .ref d]) := kp _ _ hp (Or.inl fun o => by
        rcases o with o | rfl | rfl | rfl
        · exact (Y'.own_kind o).1 _ hp
        · rw [hm'] at hp; cases hp
        · rw [hh] at hp; cases hp
        · rw [hn'] at hp; cases hp)
      have hc'' := kp _ _ hc (Or.inl (own_c _ zc))
      have hd'' := kp _ _ hd (Or.inl (own_c _ zd))
      have jl : (na.take j).length = j := by rw [List.length_take]; omega
      have num : ∀ o : Int, 0 ≤ o → o < (j : Int) → atI ((na.take j).map V.int) o = some (V.int (nat_ na o)) := fun o h0 h1 => by
        obtain ⟨z, hz, ez⟩ := at_int (ns := na.take j) h0 (by omega)
        rw [ez]
        rw [List.getElem?_take, if_pos (by omega), nat_get (m := na.length) h0 (by omega) rfl] at hz
        cases hz; rfl
      repeat walk_at "mst"
      refine Y''.meth (by decide +kernel) (by decide +kernel) (by decide +kernel) (by decide +kernel) (by decide +kernel) ?_
      repeat walk_at "mst"
      refine k_ixL (k_sq hm'') (atI_nat hfa) ?_
      repeat walk_at "mst"
      refine ⟨c, rfl, ⟨_, k_sq hc''⟩, lcR_list (K := K) (onI (nat_ na)) (k_sq hc'') (by rw [List.length_map]; exact Nat.lt_of_le_of_lt f4.1 (by decide)) (fun x hx => ?_) fun L1 H4 nL1 e4 hL1 => ?_⟩
      · obtain ⟨o, mo, rfl⟩ := List.mem_map.mp hx
        have bo := am.1.2 o mo
        refine turn_map fun H3 e R r => ?_
        have hn3 := e _ _ hn''
        repeat walk_at "mst"
        exact k_ixL (k_sq hn3) (num o bo.1 bo.2) r
      rw [onI_map] at hL1
      have hm4 := e4 _ _ hm''
      have hp4 := e4 _ _ hp''
      have hd4 := e4 _ _ hd''
      have hn4 := e4 _ _ hn''
      repeat walk_at "mst"
      refine k_ixL (k_sq hm4) (atI_nat hfa) ?_
      repeat walk_at "mst"
      refine ⟨d, rfl, ⟨_, k_sq hd4⟩, lcR_list (K := K) (onI (nat_ na)) (k_sq hd4) (by rw [List.length_map]; exact Nat.lt_of_le_of_lt f4.2 (by decide)) (fun x hx => ?_) fun L2 H5 nL2 e5 hL2 => ?_⟩
      · obtain ⟨o, mo, rfl⟩ := List.mem_map.mp hx
        have bo := am.2.2 o mo
        refine turn_map fun H3 e R r => ?_
        have hn3 := e _ _ hn4
        repeat walk_at "mst"
        exact k_ixL (k_sq hn3) (num o bo.1 bo.2) r
      rw [onI_map] at hL2
      have e45 := e4.trans e5
      have Y5 := Y''.ex e45
      have bnd : ∀ l : List Int, Asc j l → ∀ x ∈ l.map (nat_ na), 0 ≤ x ∧ x < (G1.length : Int) := fun l a x m => by
        obtain ⟨o, mo, rfl⟩ := List.mem_map.mp m
        have bo := a.2 o mo
        exact I2.rng _ (List.mem_of_getElem? (nat_get (m := na.length) bo.1 (by omega) rfl))
      repeat walk_at "mst"
      refine use_game Y5 (k_sq (e5 _ _ hL1)) (k_sq hL2) (bnd _ am.1) (bnd _ am.2) ⟨by rw [List.length_map]; omega, by rw [List.length_map]; omega⟩ (by omega) fun as bs n G3 hs3 H6 asc1 asc2 g6 Y6 pg6 hg6 => ?_
      have ta : Told na pf.1 as := told_of (l := pf.1) ⟨am.1.1, fun _ => Iff.rfl⟩ asc1
      have tb : Told na pf.2 bs := told_of (l := pf.2) ⟨am.2.1, fun _ => Iff.rfl⟩ asc2
      have hG := eg as bs ta tb
      have rj := I2.rng _ (List.mem_of_getElem? (nat_get (ns := na) (j := (j : Int)) (m := na.length) (by omega) (by omega) rfl))
      obtain ⟨en, eG, eh⟩ : n = nat_ na j ∧ G3 = G1 ∧ hs3 = hs1 := by
        rcases pg6 with ⟨k', rfl, hk', rfl⟩ | ⟨no, _, _⟩
        · have := nodup_at Y1.G.one hG hk'
          refine ⟨by omega, rfl, ?_⟩
          rcases hg6 with ⟨_, e⟩ | ⟨no, _⟩
          · exact e
          · exact absurd (List.mem_of_getElem? hG) no
        · exact absurd (List.mem_of_getElem? hG) no
      rw [eG, eh] at Y6
      rw [en]
      have hn6 := g6 _ _ (e45 _ _ hn'') S.off.2.2
      repeat walk_at "mst"
      · exact k_sizeL (by omega)
      have b7 : ∀ c o, H6 c = some o → c ≠ A.np → upd H6 A.np (HO.lst ((na.take j).map V.int ++ [V.int (nat_ na j)])) c = some o := fun c o h ne => (upd_ne ne).trans h
      have s7 : upd H6 A.np (HO.lst ((na.take j).map V.int ++ [V.int (nat_ na j)])) A.np = some (HO.lst ((na.take (j + 1)).map V.int)) := by
        rw [upd_same, List.take_add_one, nat_get_nat (by omega), List.map_append]; rfl
      generalize upd H6 A.np (HO.lst ((na.take j).map V.int ++ [V.int (nat_ na j)])) = H7 at *
      refine ⟨_, _, fun c o h hc => ?_, Y6.but hn6 S.off.2.2 b7, by rw [show ns.length + (i + 1) = j + 1 by omega]; exact s7, rfl⟩
      have h5 := e45 _ _ (kp c o h hc)
      refine b7 _ _ (g6 _ _ h5 ?_) ?_
      · rcases hc with hc | rfl | rfl | rfl
        · exact Classical.byContradiction fun n => hc (Or.inl n)
        · exact S.off.1
        · exact S.off.2.1
        · exact onD
      · rcases hc with hc | rfl | rfl | rfl
        · exact fun e => hc (Or.inr (Or.inr (Or.inr e)))
        · exact S.ne.2.1
        · exact S.ne.2.2
        · exact Dn
    · rintro σ H'' ⟨y8, y12, kp, Y'', hn'', rfl⟩
      rw [show na.take (ns.length + e.length) = na by rw [List.take_of_length_le (by omega)]] at hn''
      have hD'' := kp _ _ hD' (Or.inr (Or.inr (Or.inr rfl)))
      have hm'' := kp _ _ hm' (Or.inr (Or.inl rfl))
      have hh'' := kp _ _ hh (Or.inr (Or.inr (Or.inl rfl)))
      have tup'' : ∀ c ys, H' c = some (.tup ys) → H'' c = some (.tup ys) := fun c ys h => kp _ _ h (Or.inl fun o => by
        rcases o with o | rfl | rfl | rfl
        · exact (Y'.own_kind o).1 _ h
        · rw [hm'] at h; cases h
        · rw [hh] at h; cases h
        · rw [hn'] at h; cases h)
      have mo'' : ModAt Z H'' A.m M' := mod_less (Z' := fun c => Z c ∨ c = D) ⟨xs', hm'', fs'.keep (fun c o h n => kp _ _ h (Or.inl fun o => n (Or.inl (S.own c o)))) tup''⟩ fun c z => Or.inl z
      have gA'' : GrA A H H'' := gA'.trans fun c o h n => kp _ _ h (Or.inl n)
      have al'' := gA''.al (fun x o => by
        rcases o with o | rfl | rfl | rfl
        · exact Y''.own_al o
        · exact sne hm''
        · exact sne hh''
        · exact sne hn'') S.al
      have S'' : Sd P w K Z H'' A M' G1 hts' hs1 na ts1 := ⟨Y'', T1, L1, tup'' _ _ hst', mo'', hh'', hl, hn'', I2, FM', O', f4', S.off, S.ne, S.own, al''⟩
      have et : t = nat_ na (fd tl k) := by
        rw [← hall, nat_appL (by omega) (by omega)] at rt
        rw [hall] at rt
        exact Bis.fn Y1.G T1.bis T1.bis gt1 rt
      repeat walk_at "mst"
      refine k_ixL (k_sq hD'') (fd_at (by omega) (by omega)) ?_
      refine k_ixL (k_sq hn'') (nat_at bt.1 bt.2 (by omega)) ?_
      rw [← et]
      repeat walk_at "mst"
      rw [decide_eq_true rfl]
      exact q _ _ _ _ _ _ _ gA'' S'' ph1
theorem use_lturn {P : Program} {w : World} {K : PySem.W.Frag} {H : Hp} {Q : VK} {E : XK} {Z : Addr → Prop} {A : Adr} {M G : List Pr} {hts hs ns : List Int} {ts : List (Key × V)} {k : Nat} (S : Sd P w K Z H A M G hts hs ns ts) (hk : k < M.length) (few : Phi G ts ≤ 190)
    (q : ∀ (M' G' : List Pr) (hts' hs' ns' : List Int) (ts' : List (Key × V)) (H' : Hp), GrA A H H' → Sd P w K Z H' A M' G' hts' hs' ns' ts' → Phi G' ts' ≤ Phi G ts → Q (.bl true) H') : sp_law_turn P w K ([.ref A.F.y, .ref A.st, .int (k : Int)] ++ []) H Q E := ⟨Z, A, M, G, hts, hs, ns, ts, k, rfl, S, hk, few, q⟩
def gd_Yard_m_lefts (P : Program) (w : World) (K : PySem.W.Frag) : Sp := fun vs H Q _ => ∃ (F : Foot) (G : List Pr) (hs : List Int) (ts : List (Key × V)) (k : Nat) (g : Pr), vs = [.ref F.y, .int k] ∧ YardAt P w K H F G hs ts ∧ G[k]? = some g ∧
  ∀ p H', H p = none → Ex H H' → H' p = some (.lst (g.1.map V.int)) → Q (.ref p) H'
def bd_Yard_m_lefts (P : Program) (w : World) (K : PySem.W.Frag) : Sp := fun vs H _ E => ∃ (F : Foot) (G : List Pr) (hs : List Int) (ts : List (Key × V)) (g : Int), vs = [.ref F.y, .int g] ∧ YardAt P w K H F G hs ts ∧ ¬ (0 ≤ g ∧ g < G.length) ∧ ∀ H', Ex H H' → E (.ref (He.ga K "Unknown")) none H'
def sp_Yard_m_lefts (P : Program) (w : World) (K : PySem.W.Frag) : Sp := fun vs H Q E => gd_Yard_m_lefts P w K vs H Q E ∨ bd_Yard_m_lefts P w K vs H Q E
abbrev N_Yard_m_lefts : List Str := ["self", "game"]
def t_Yard_m_lefts (P : Program) (w : World) (K : PySem.W.Frag) (E : XK) : TS := (tSeq (tDrop (tMeth (He.ga K "Yard") "check" (sp_Yard_m_check P w K) [] E (tVar 0) (tCons (tVar 1) tNil))) (tRet (tCB (rListQ K) (tCons (tOp (rIxL K) (tFld K (tVar 0) "_lefts") (tVar 1)) tNil))))
theorem lenG_Yard_m_lefts {P : Program} {w : World} {K : PySem.W.Frag} {vs : List V} {H : Hp} {Q : VK} {E : XK} (h : gd_Yard_m_lefts P w K vs H Q E) : vs.length = 2 := by
  obtain ⟨_, _, _, _, _, _, rfl, _⟩ := h; rfl
theorem pureG_Yard_m_lefts {P : Program} {w : World} {K : PySem.W.Frag} (FY : FYard K) (vs : List V) (H : Hp) (Q : VK) (E : XK) (h : gd_Yard_m_lefts P w K vs H Q E) : t_Yard_m_lefts P w K E { nx := fun _ H' => Q .non H', rt := Q } (start N_Yard_m_lefts vs) H := by
  obtain ⟨F, G, hs, ts, k, g, rfl, Y, hk, q⟩ := h
  obtain ⟨xs, hl, rows⟩ := Y.ls
  have hi := Y.ins
  have lk := (List.getElem?_eq_some_iff.mp hk).1
  obtain ⟨a, ha, hg⟩ := rows.2 k g.1 (by rw [List.getElem?_map, hk]; rfl)
  unfold t_Yard_m_lefts
  repeat walk_at "mst"
  refine Y.meth (by decide +kernel) (by decide +kernel) (by decide +kernel) (by decide +kernel) (by decide +kernel) ?_
  repeat walk_at "mst"
  refine use_check Y ⟨by omega, by omega⟩ ?_
  repeat walk_at "mst"
  refine k_ixL (k_sq hl) (atI_nat ha) ?_
  repeat walk_at "mst"
  exact fun p n => q p _ n (Evl.Ex.new n) upd_same
theorem use_lefts {P : Program} {w : World} {K : PySem.W.Frag} {H : Hp} {Q : VK} {E : XK} {F : Foot} {G : List Pr} {hs : List Int} {ts : List (Key × V)} {k : Nat} {g : Pr} (Y : YardAt P w K H F G hs ts) (hk : G[k]? = some g) (q : ∀ p H', H p = none → Ex H H' → H' p = some (.lst (g.1.map V.int)) → Q (.ref p) H') :
    sp_Yard_m_lefts P w K (.ref F.y :: ([.int (k : Int)] ++ [])) H Q E := Or.inl ⟨F, G, hs, ts, k, g, rfl, Y, hk, q⟩
theorem lenB_Yard_m_lefts {P : Program} {w : World} {K : PySem.W.Frag} {vs : List V} {H : Hp} {Q : VK} {E : XK} (h : bd_Yard_m_lefts P w K vs H Q E) : vs.length = 2 := by
  obtain ⟨_, _, _, _, _, rfl, _⟩ := h; rfl
theorem len_Yard_m_lefts {P : Program} {w : World} {K : PySem.W.Frag} {vs : List V} {H : Hp} {Q : VK} {E : XK} (h : sp_Yard_m_lefts P w K vs H Q E) : vs.length = 2 := h.elim lenG_Yard_m_lefts lenB_Yard_m_lefts
theorem pureB_Yard_m_lefts {P : Program} {w : World} {K : PySem.W.Frag} (FY : FYard K) (vs : List V) (H : Hp) (Q : VK) (E : XK) (h : bd_Yard_m_lefts P w K vs H Q E) : t_Yard_m_lefts P w K E { nx := fun _ H' => Q .non H', rt := Q } (start N_Yard_m_lefts vs) H := by
  obtain ⟨F, G, hs, ts, g, rfl, Y, b, q⟩ := h
  have hi := Y.ins
  unfold t_Yard_m_lefts
  repeat walk_at "mst"
  refine Y.meth (by decide +kernel) (by decide +kernel) (by decide +kernel) (by decide +kernel) (by decide +kernel) ?_
  repeat walk_at "mst"
  exact useB_check Y b q
theorem pure_Yard_m_lefts {P : Program} {w : World} {K : PySem.W.Frag} (FY : FYard K) (vs : List V) (H : Hp) (Q : VK) (E : XK) (h : sp_Yard_m_lefts P w K vs H Q E) : t_Yard_m_lefts P w K E { nx := fun _ H' => Q .non H', rt := Q } (start N_Yard_m_lefts vs) H := h.elim (pureG_Yard_m_lefts FY vs H Q E) (pureB_Yard_m_lefts FY vs H Q E)
theorem useB_lefts {P : Program} {w : World} {K : PySem.W.Frag} {H : Hp} {Q : VK} {E : XK} {F : Foot} {G : List Pr} {hs : List Int} {ts : List (Key × V)} {g : Int} (Y : YardAt P w K H F G hs ts) (b : ¬ (0 ≤ g ∧ g < G.length)) (q : ∀ H', Ex H H' → E (.ref (He.ga K "Unknown")) none H') : sp_Yard_m_lefts P w K (.ref F.y :: ([.int g] ++ [])) H Q E := Or.inr ⟨F, G, hs, ts, g, rfl, Y, b, q⟩
def gd_Yard_m_rights (P : Program) (w : World) (K : PySem.W.Frag) : Sp := fun vs H Q _ => ∃ (F : Foot) (G : List Pr) (hs : List Int) (ts : List (Key × V)) (k : Nat) (g : Pr), vs = [.ref F.y, .int k] ∧ YardAt P w K H F G hs ts ∧ G[k]? = some g ∧
  ∀ p H', H p = none → Ex H H' → H' p = some (.lst (g.2.map V.int)) → Q (.ref p) H'
def bd_Yard_m_rights (P : Program) (w : World) (K : PySem.W.Frag) : Sp := fun vs H _ E => ∃ (F : Foot) (G : List Pr) (hs : List Int) (ts : List (Key × V)) (g : Int), vs = [.ref F.y, .int g] ∧ YardAt P w K H F G hs ts ∧ ¬ (0 ≤ g ∧ g < G.length) ∧ ∀ H', Ex H H' → E (.ref (He.ga K "Unknown")) none H'
def sp_Yard_m_rights (P : Program) (w : World) (K : PySem.W.Frag) : Sp := fun vs H Q E => gd_Yard_m_rights P w K vs H Q E ∨ bd_Yard_m_rights P w K vs H Q E
abbrev N_Yard_m_rights : List Str := ["self", "game"]
def t_Yard_m_rights (P : Program) (w : World) (K : PySem.W.Frag) (E : XK) : TS := (tSeq (tDrop (tMeth (He.ga K "Yard") "check" (sp_Yard_m_check P w K) [] E (tVar 0) (tCons (tVar 1) tNil))) (tRet (tCB (rListQ K) (tCons (tOp (rIxL K) (tFld K (tVar 0) "_rights") (tVar 1)) tNil))))
theorem lenG_Yard_m_rights {P : Program} {w : World} {K : PySem.W.Frag} {vs : List V} {H : Hp} {Q : VK} {E : XK} (h : gd_Yard_m_rights P w K vs H Q E) : vs.length = 2 := by
  obtain ⟨_, _, _, _, _, _, rfl, _⟩ := h; rfl
theorem pureG_Yard_m_rights {P : Program} {w : World} {K : PySem.W.Frag} (FY : FYard K) (vs : List V) (H : Hp) (Q : VK) (E : XK) (h : gd_Yard_m_rights P w K vs H Q E) : t_Yard_m_rights P w K E { nx := fun _ H' => Q .non H', rt := Q } (start N_Yard_m_rights vs) H := by
  obtain ⟨F, G, hs, ts, k, g, rfl, Y, hk, q⟩ := h
  obtain ⟨xs, hl, rows⟩ := Y.rs
  have hi := Y.ins
  have lk := (List.getElem?_eq_some_iff.mp hk).1
  obtain ⟨a, ha, hg⟩ := rows.2 k g.2 (by rw [List.getElem?_map, hk]; rfl)
  unfold t_Yard_m_rights
  repeat walk_at "mst"
  refine Y.meth (by decide +kernel) (by decide +kernel) (by decide +kernel) (by decide +kernel) (by decide +kernel) ?_
  repeat walk_at "mst"
  refine use_check Y ⟨by omega, by omega⟩ ?_
  repeat walk_at "mst"
  refine k_ixL (k_sq hl) (atI_nat ha) ?_
  repeat walk_at "mst"
  exact fun p n => q p _ n (Evl.Ex.new n) upd_same
theorem use_rights {P : Program} {w : World} {K : PySem.W.Frag} {H : Hp} {Q : VK} {E : XK} {F : Foot} {G : List Pr} {hs : List Int} {ts : List (Key × V)} {k : Nat} {g : Pr} (Y : YardAt P w K H F G hs ts) (hk : G[k]? = some g) (q : ∀ p H', H p = none → Ex H H' → H' p = some (.lst (g.2.map V.int)) → Q (.ref p) H') :
    sp_Yard_m_rights P w K (.ref F.y :: ([.int (k : Int)] ++ [])) H Q E := Or.inl ⟨F, G, hs, ts, k, g, rfl, Y, hk, q⟩
theorem lenB_Yard_m_rights {P : Program} {w : World} {K : PySem.W.Frag} {vs : List V} {H : Hp} {Q : VK} {E : XK} (h : bd_Yard_m_rights P w K vs H Q E) : vs.length = 2 := by
  obtain ⟨_, _, _, _, _, rfl, _⟩ := h; rfl
theorem len_Yard_m_rights {P : Program} {w : World} {K : PySem.W.Frag} {vs : List V} {H : Hp} {Q : VK} {E : XK} (h : sp_Yard_m_rights P w K vs H Q E) : vs.length = 2 := h.elim lenG_Yard_m_rights lenB_Yard_m_rights
theorem pureB_Yard_m_rights {P : Program} {w : World} {K : PySem.W.Frag} (FY : FYard K) (vs : List V) (H : Hp) (Q : VK) (E : XK) (h : bd_Yard_m_rights P w K vs H Q E) : t_Yard_m_rights P w K E { nx := fun _ H' => Q .non H', rt := Q } (start N_Yard_m_rights vs) H := by
  obtain ⟨F, G, hs, ts, g, rfl, Y, b, q⟩ := h
  have hi := Y.ins
  unfold t_Yard_m_rights
  repeat walk_at "mst"
  refine Y.meth (by decide +kernel) (by decide +kernel) (by decide +kernel) (by decide +kernel) (by decide +kernel) ?_
  repeat walk_at "mst"
  exact useB_check Y b q
theorem pure_Yard_m_rights {P : Program} {w : World} {K : PySem.W.Frag} (FY : FYard K) (vs : List V) (H : Hp) (Q : VK) (E : XK) (h : sp_Yard_m_rights P w K vs H Q E) : t_Yard_m_rights P w K E { nx := fun _ H' => Q .non H', rt := Q } (start N_Yard_m_rights vs) H := h.elim (pureG_Yard_m_rights FY vs H Q E) (pureB_Yard_m_rights FY vs H Q E)
theorem useB_rights {P : Program} {w : World} {K : PySem.W.Frag} {H : Hp} {Q : VK} {E : XK} {F : Foot} {G : List Pr} {hs : List Int} {ts : List (Key × V)} {g : Int} (Y : YardAt P w K H F G hs ts) (b : ¬ (0 ≤ g ∧ g < G.length)) (q : ∀ H', Ex H H' → E (.ref (He.ga K "Unknown")) none H') : sp_Yard_m_rights P w K (.ref F.y :: ([.int g] ++ [])) H Q E := Or.inr ⟨F, G, hs, ts, g, rfl, Y, b, q⟩
def gd_Yard_m_options (P : Program) (w : World) (K : PySem.W.Frag) : Sp := fun vs H Q _ => ∃ (F : Foot) (G : List Pr) (hs : List Int) (ts : List (Key × V)) (k : Nat) (g : Pr) (s : Str), vs = [.ref F.y, .int k, .str s] ∧ YardAt P w K H F G hs ts ∧ G[k]? = some g ∧
  ∀ p H', H p = none → Ex H H' → H' p = some (.lst ((if s = "left" then g.1 else g.2).map V.int)) → Q (.ref p) H'
def bd_Yard_m_options (P : Program) (w : World) (K : PySem.W.Frag) : Sp := fun vs H _ E => ∃ (F : Foot) (G : List Pr) (hs : List Int) (ts : List (Key × V)) (g : Int) (s : Str), vs = [.ref F.y, .int g, .str s] ∧ YardAt P w K H F G hs ts ∧ ¬ (0 ≤ g ∧ g < G.length) ∧ ∀ H', Ex H H' → E (.ref (He.ga K "Unknown")) none H'
def sp_Yard_m_options (P : Program) (w : World) (K : PySem.W.Frag) : Sp := fun vs H Q E => gd_Yard_m_options P w K vs H Q E ∨ bd_Yard_m_options P w K vs H Q E
abbrev N_Yard_m_options : List Str := ["self", "game", "side"]
def t_Yard_m_options (P : Program) (w : World) (K : PySem.W.Frag) (E : XK) : TS := (tSeq (tIfS (tTest (tOp rEq (tVar 2) (tC (.str "left")))) (tRet (tMeth (He.ga K "Yard") "lefts" (sp_Yard_m_lefts P w K) [] E (tVar 0) (tCons (tVar 1) tNil))) tNext) (tRet (tMeth (He.ga K "Yard") "rights" (sp_Yard_m_rights P w K) [] E (tVar 0) (tCons (tVar 1) tNil))))
theorem lenG_Yard_m_options {P : Program} {w : World} {K : PySem.W.Frag} {vs : List V} {H : Hp} {Q : VK} {E : XK} (h : gd_Yard_m_options P w K vs H Q E) : vs.length = 3 := by
  obtain ⟨_, _, _, _, _, _, _, rfl, _⟩ := h; rfl
theorem k_eqStr {H : Hp} {Q : VK} {a b : Str} (q : Q (.bl (decide (a = b))) H) : rEq (.str a) (.str b) H Q := ⟨rfl, by
  have e : decide (V.str a = V.str b) = decide (a = b) := decide_eq_decide.mpr ⟨fun h => V.str.inj h, fun h => by rw [h]⟩
  rw [e]; exact q⟩
theorem pureG_Yard_m_options {P : Program} {w : World} {K : PySem.W.Frag} (vs : List V) (H : Hp) (Q : VK) (E : XK) (h : gd_Yard_m_options P w K vs H Q E) : t_Yard_m_options P w K E { nx := fun _ H' => Q .non H', rt := Q } (start N_Yard_m_options vs) H := by
  obtain ⟨F, G, hs, ts, k, g, s, rfl, Y, hk, q⟩ := h
  unfold t_Yard_m_options
  repeat walk_at "mst"
  refine k_eqStr ?_
  repeat walk_at "mst"
  refine k_iteD (fun h => ?_) (fun h => ?_)
  · rw [if_pos h] at q
    repeat walk_at "mst"
    refine Y.meth (by decide +kernel) (by decide +kernel) (by decide +kernel) (by decide +kernel) (by decide +kernel) ?_
    repeat walk_at "mst"
    exact use_lefts Y hk q
  · rw [if_neg h] at q
    repeat walk_at "mst"
    refine Y.meth (by decide +kernel) (by decide +kernel) (by decide +kernel) (by decide +kernel) (by decide +kernel) ?_
    repeat walk_at "mst"
    exact use_rights Y hk q
theorem use_options {P : Program} {w : World} {K : PySem.W.Frag} {H : Hp} {Q : VK} {E : XK} {F : Foot} {G : List Pr} {hs : List Int} {ts : List (Key × V)} {k : Nat} {g : Pr} {s : Str} (Y : YardAt P w K H F G hs ts) (hk : G[k]? = some g) (q : ∀ p H', H p = none → Ex H H' → H' p = some (.lst ((if s = "left" then g.1 else g.2).map V.int)) → Q (.ref p) H') :
    sp_Yard_m_options P w K (.ref F.y :: ([.int (k : Int), .str s] ++ [])) H Q E := Or.inl ⟨F, G, hs, ts, k, g, s, rfl, Y, hk, q⟩
theorem lenB_Yard_m_options {P : Program} {w : World} {K : PySem.W.Frag} {vs : List V} {H : Hp} {Q : VK} {E : XK} (h : bd_Yard_m_options P w K vs H Q E) : vs.length = 3 := by
  obtain ⟨_, _, _, _, _, _, rfl, _⟩ := h; rfl
theorem len_Yard_m_options {P : Program} {w : World} {K : PySem.W.Frag} {vs : List V} {H : Hp} {Q : VK} {E : XK} (h : sp_Yard_m_options P w K vs H Q E) : vs.length = 3 := h.elim lenG_Yard_m_options lenB_Yard_m_options
theorem pureB_Yard_m_options {P : Program} {w : World} {K : PySem.W.Frag} (vs : List V) (H : Hp) (Q : VK) (E : XK) (h : bd_Yard_m_options P w K vs H Q E) : t_Yard_m_options P w K E { nx := fun _ H' => Q .non H', rt := Q } (start N_Yard_m_options vs) H := by
  obtain ⟨F, G, hs, ts, g, s, rfl, Y, b, q⟩ := h
  unfold t_Yard_m_options
  repeat walk_at "mst"
  refine k_eqStr ?_
  repeat walk_at "mst"
  refine k_iteD (fun h => ?_) (fun h => ?_)
  · repeat walk_at "mst"
    refine Y.meth (by decide +kernel) (by decide +kernel) (by decide +kernel) (by decide +kernel) (by decide +kernel) ?_
    repeat walk_at "mst"
    exact useB_lefts Y b q
  · repeat walk_at "mst"
    refine Y.meth (by decide +kernel) (by decide +kernel) (by decide +kernel) (by decide +kernel) (by decide +kernel) ?_
    repeat walk_at "mst"
    exact useB_rights Y b q
theorem pure_Yard_m_options {P : Program} {w : World} {K : PySem.W.Frag} (vs : List V) (H : Hp) (Q : VK) (E : XK) (h : sp_Yard_m_options P w K vs H Q E) : t_Yard_m_options P w K E { nx := fun _ H' => Q .non H', rt := Q } (start N_Yard_m_options vs) H := h.elim (pureG_Yard_m_options vs H Q E) (pureB_Yard_m_options vs H Q E)
theorem useB_options {P : Program} {w : World} {K : PySem.W.Frag} {H : Hp} {Q : VK} {E : XK} {F : Foot} {G : List Pr} {hs : List Int} {ts : List (Key × V)} {g : Int} {s : Str} (Y : YardAt P w K H F G hs ts) (b : ¬ (0 ≤ g ∧ g < G.length)) (q : ∀ H', Ex H H' → E (.ref (He.ga K "Unknown")) none H') : sp_Yard_m_options P w K (.ref F.y :: ([.int g, .str s] ++ [])) H Q E := Or.inr ⟨F, G, hs, ts, g, s, rfl, Y, b, q⟩
def gd_Yard_m_height (P : Program) (w : World) (K : PySem.W.Frag) : Sp := fun vs H Q _ => ∃ (F : Foot) (G : List Pr) (hs : List Int) (ts : List (Key × V)) (k : Int), vs = [.ref F.y, .int k] ∧ YardAt P w K H F G hs ts ∧ 0 ≤ k ∧ k < G.length ∧ Q (.int (hat hs k)) H
def bd_Yard_m_height (P : Program) (w : World) (K : PySem.W.Frag) : Sp := fun vs H _ E => ∃ (F : Foot) (G : List Pr) (hs : List Int) (ts : List (Key × V)) (g : Int), vs = [.ref F.y, .int g] ∧ YardAt P w K H F G hs ts ∧ ¬ (0 ≤ g ∧ g < G.length) ∧ ∀ H', Ex H H' → E (.ref (He.ga K "Unknown")) none H'
def sp_Yard_m_height (P : Program) (w : World) (K : PySem.W.Frag) : Sp := fun vs H Q E => gd_Yard_m_height P w K vs H Q E ∨ bd_Yard_m_height P w K vs H Q E
abbrev N_Yard_m_height : List Str := ["self", "game"]
def t_Yard_m_height (P : Program) (w : World) (K : PySem.W.Frag) (E : XK) : TS := (tSeq (tDrop (tMeth (He.ga K "Yard") "check" (sp_Yard_m_check P w K) [] E (tVar 0) (tCons (tVar 1) tNil))) (tRet (tOp (rIxL K) (tFld K (tVar 0) "_heights") (tVar 1))))
theorem lenG_Yard_m_height {P : Program} {w : World} {K : PySem.W.Frag} {vs : List V} {H : Hp} {Q : VK} {E : XK} (h : gd_Yard_m_height P w K vs H Q E) : vs.length = 2 := by
  obtain ⟨_, _, _, _, _, rfl, _⟩ := h; rfl
theorem pureG_Yard_m_height {P : Program} {w : World} {K : PySem.W.Frag} (FY : FYard K) (vs : List V) (H : Hp) (Q : VK) (E : XK) (h : gd_Yard_m_height P w K vs H Q E) : t_Yard_m_height P w K E { nx := fun _ H' => Q .non H', rt := Q } (start N_Yard_m_height vs) H := by
  obtain ⟨F, G, hs, ts, k, rfl, Y, k0, k1, q⟩ := h
  obtain ⟨hh, hl⟩ := Y.hs
  have hi := Y.ins
  unfold t_Yard_m_height
  repeat walk_at "mst"
  refine Y.meth (by decide +kernel) (by decide +kernel) (by decide +kernel) (by decide +kernel) (by decide +kernel) ?_
  repeat walk_at "mst"
  refine use_check Y ⟨k0, k1⟩ ?_
  repeat walk_at "mst"
  exact k_ixL (k_sq hh) (hat_at hl k0 k1) q
theorem use_height {P : Program} {w : World} {K : PySem.W.Frag} {H : Hp} {Q : VK} {E : XK} {F : Foot} {G : List Pr} {hs : List Int} {ts : List (Key × V)} {k : Int} (Y : YardAt P w K H F G hs ts) (b : 0 ≤ k ∧ k < G.length) (q : Q (.int (hat hs k)) H) : sp_Yard_m_height P w K (.ref F.y :: ([.int k] ++ [])) H Q E := Or.inl ⟨F, G, hs, ts, k, rfl, Y, b.1, b.2, q⟩
theorem lenB_Yard_m_height {P : Program} {w : World} {K : PySem.W.Frag} {vs : List V} {H : Hp} {Q : VK} {E : XK} (h : bd_Yard_m_height P w K vs H Q E) : vs.length = 2 := by
  obtain ⟨_, _, _, _, _, rfl, _⟩ := h; rfl
theorem len_Yard_m_height {P : Program} {w : World} {K : PySem.W.Frag} {vs : List V} {H : Hp} {Q : VK} {E : XK} (h : sp_Yard_m_height P w K vs H Q E) : vs.length = 2 := h.elim lenG_Yard_m_height lenB_Yard_m_height
theorem pureB_Yard_m_height {P : Program} {w : World} {K : PySem.W.Frag} (FY : FYard K) (vs : List V) (H : Hp) (Q : VK) (E : XK) (h : bd_Yard_m_height P w K vs H Q E) : t_Yard_m_height P w K E { nx := fun _ H' => Q .non H', rt := Q } (start N_Yard_m_height vs) H := by
  obtain ⟨F, G, hs, ts, g, rfl, Y, b, q⟩ := h
  have hi := Y.ins
  unfold t_Yard_m_height
  repeat walk_at "mst"
  refine Y.meth (by decide +kernel) (by decide +kernel) (by decide +kernel) (by decide +kernel) (by decide +kernel) ?_
  repeat walk_at "mst"
  exact useB_check Y b q
theorem pure_Yard_m_height {P : Program} {w : World} {K : PySem.W.Frag} (FY : FYard K) (vs : List V) (H : Hp) (Q : VK) (E : XK) (h : sp_Yard_m_height P w K vs H Q E) : t_Yard_m_height P w K E { nx := fun _ H' => Q .non H', rt := Q } (start N_Yard_m_height vs) H := h.elim (pureG_Yard_m_height FY vs H Q E) (pureB_Yard_m_height FY vs H Q E)
theorem useB_height {P : Program} {w : World} {K : PySem.W.Frag} {H : Hp} {Q : VK} {E : XK} {F : Foot} {G : List Pr} {hs : List Int} {ts : List (Key × V)} {g : Int} (Y : YardAt P w K H F G hs ts) (b : ¬ (0 ≤ g ∧ g < G.length)) (q : ∀ H', Ex H H' → E (.ref (He.ga K "Unknown")) none H') : sp_Yard_m_height P w K (.ref F.y :: ([.int g] ++ [])) H Q E := Or.inr ⟨F, G, hs, ts, g, rfl, Y, b, q⟩
def gd_Yard_m_followers (P : Program) (w : World) (K : PySem.W.Frag) : Sp := fun vs H Q _ => ∃ (F : Foot) (G : List Pr) (hs : List Int) (ts : List (Key × V)) (k : Int), vs = [.ref F.y, .int k] ∧ YardAt P w K H F G hs ts ∧ 0 ≤ k ∧ k < G.length ∧ G.length ≤ 200 ∧
  ∀ (p : Addr) (rs : List Int) (H' : Hp), H p = none → Ex H H' → H' p = some (.lst (rs.map V.int)) → rs.Pairwise (· < ·) → (∀ j, j ∈ rs ↔ Rch G (dkey []) k j) → Q (.ref p) H'
def bd_Yard_m_followers (P : Program) (w : World) (K : PySem.W.Frag) : Sp := fun vs H _ E => ∃ (F : Foot) (G : List Pr) (hs : List Int) (ts : List (Key × V)) (g : Int), vs = [.ref F.y, .int g] ∧ YardAt P w K H F G hs ts ∧ ¬ (0 ≤ g ∧ g < G.length) ∧ ∀ H', Ex H H' → E (.ref (He.ga K "Unknown")) none H'
def sp_Yard_m_followers (P : Program) (w : World) (K : PySem.W.Frag) : Sp := fun vs H Q E => gd_Yard_m_followers P w K vs H Q E ∨ bd_Yard_m_followers P w K vs H Q E
abbrev N_Yard_m_followers : List Str := ["self", "game"]
def t_Yard_m_followers (P : Program) (w : World) (K : PySem.W.Frag) (E : XK) : TS := (tRet (tMeth (He.ga K "Yard") "reached" (sp_Yard_m_reached P w K) [] E (tVar 0) (tCons (tVar 1) (tCons tDNewK tNil))))
theorem lenG_Yard_m_followers {P : Program} {w : World} {K : PySem.W.Frag} {vs : List V} {H : Hp} {Q : VK} {E : XK} (h : gd_Yard_m_followers P w K vs H Q E) : vs.length = 2 := by
  obtain ⟨_, _, _, _, _, rfl, _⟩ := h; rfl
theorem pureG_Yard_m_followers {P : Program} {w : World} {K : PySem.W.Frag} (vs : List V) (H : Hp) (Q : VK) (E : XK) (h : gd_Yard_m_followers P w K vs H Q E) : t_Yard_m_followers P w K E { nx := fun _ H' => Q .non H', rt := Q } (start N_Yard_m_followers vs) H := by
  obtain ⟨F, G, hs, ts, k, rfl, Y, k0, k1, few, q⟩ := h
  unfold t_Yard_m_followers
  repeat walk_at "mst"
  refine Y.meth (by decide +kernel) (by decide +kernel) (by decide +kernel) (by decide +kernel) (by decide +kernel) ?_
  repeat walk_at "mst"
  intro d nd
  have e1 := Evl.Ex.new (o := HO.dK []) nd
  have s1 : upd H d (HO.dK []) d = some (HO.dK []) := upd_same
  generalize upd H d (HO.dK []) = H1 at *
  repeat walk_at "mst"
  exact use_reached (Y.ex e1) ⟨k0, k1⟩ (by omega) s1 fun p rs H' np e h asc mem => q p rs H' (Evl.fresh_back e1 np) (e1.trans e) h asc mem
theorem use_followers {P : Program} {w : World} {K : PySem.W.Frag} {H : Hp} {Q : VK} {E : XK} {F : Foot} {G : List Pr} {hs : List Int} {ts : List (Key × V)} {k : Int} (Y : YardAt P w K H F G hs ts) (b : 0 ≤ k ∧ k < G.length) (few : G.length ≤ 200)
    (q : ∀ (p : Addr) (rs : List Int) (H' : Hp), H p = none → Ex H H' → H' p = some (.lst (rs.map V.int)) → rs.Pairwise (· < ·) → (∀ j, j ∈ rs ↔ Rch G (dkey []) k j) → Q (.ref p) H') : sp_Yard_m_followers P w K (.ref F.y :: ([.int k] ++ [])) H Q E := Or.inl ⟨F, G, hs, ts, k, rfl, Y, b.1, b.2, few, q⟩
theorem lenB_Yard_m_followers {P : Program} {w : World} {K : PySem.W.Frag} {vs : List V} {H : Hp} {Q : VK} {E : XK} (h : bd_Yard_m_followers P w K vs H Q E) : vs.length = 2 := by
  obtain ⟨_, _, _, _, _, rfl, _⟩ := h; rfl
theorem len_Yard_m_followers {P : Program} {w : World} {K : PySem.W.Frag} {vs : List V} {H : Hp} {Q : VK} {E : XK} (h : sp_Yard_m_followers P w K vs H Q E) : vs.length = 2 := h.elim lenG_Yard_m_followers lenB_Yard_m_followers
theorem pureB_Yard_m_followers {P : Program} {w : World} {K : PySem.W.Frag} (vs : List V) (H : Hp) (Q : VK) (E : XK) (h : bd_Yard_m_followers P w K vs H Q E) : t_Yard_m_followers P w K E { nx := fun _ H' => Q .non H', rt := Q } (start N_Yard_m_followers vs) H := by
  obtain ⟨F, G, hs, ts, g, rfl, Y, b, q⟩ := h
  unfold t_Yard_m_followers
  repeat walk_at "mst"
  refine Y.meth (by decide +kernel) (by decide +kernel) (by decide +kernel) (by decide +kernel) (by decide +kernel) ?_
  repeat walk_at "mst"
  intro d nd
  have e1 := Evl.Ex.new (o := HO.dK []) nd
  generalize upd H d (HO.dK []) = H1 at *
  repeat walk_at "mst"
  exact useB_reached (Y.ex e1) b fun H' e => q _ (e1.trans e)
theorem pure_Yard_m_followers {P : Program} {w : World} {K : PySem.W.Frag} (vs : List V) (H : Hp) (Q : VK) (E : XK) (h : sp_Yard_m_followers P w K vs H Q E) : t_Yard_m_followers P w K E { nx := fun _ H' => Q .non H', rt := Q } (start N_Yard_m_followers vs) H := h.elim (pureG_Yard_m_followers vs H Q E) (pureB_Yard_m_followers vs H Q E)
theorem useB_followers {P : Program} {w : World} {K : PySem.W.Frag} {H : Hp} {Q : VK} {E : XK} {F : Foot} {G : List Pr} {hs : List Int} {ts : List (Key × V)} {g : Int} (Y : YardAt P w K H F G hs ts) (b : ¬ (0 ≤ g ∧ g < G.length)) (q : ∀ H', Ex H H' → E (.ref (He.ga K "Unknown")) none H') : sp_Yard_m_followers P w K (.ref F.y :: ([.int g] ++ [])) H Q E := Or.inr ⟨F, G, hs, ts, g, rfl, Y, b, q⟩
structure FUnkE (K : PySem.W.Frag) : Prop where
  k1 : PySem.W.kitOne K (.ref (He.ga K "Unknown")) (.ref (He.ga K "BadText")) = some false
  k2 : PySem.W.kitOne K (.ref (He.ga K "Unknown")) (.ref (He.ga K "BadValue")) = some false
  k3 : PySem.W.kitOne K (.ref (He.ga K "Unknown")) (.ref (He.ga K "NoMove")) = some false
  k4 : PySem.W.kitOne K (.ref (He.ga K "Unknown")) (.ref (He.ga K "Unknown")) = some true
  k5 : PySem.W.kitOne K (.ref (He.ga K "Unknown")) (.type "ValueError") = some true
def sp_law_is_unknown (K : PySem.W.Frag) (a : Addr) : Sp := fun vs H Q _ => vs = [.ref a] ∧ Q (.bl true) H
local macro_rules | `(tactic| walk_at "mst") => `(tactic| first
  | ((refine k_isE (b := ?_) ?_ rel_ref ?_); rotate_left; (focus assumption))
  | ((refine k_isE (b := ?_) ?_ rel_ty ?_); rotate_left; (focus assumption)))
abbrev N_law_is_unknown : List Str := ["e"]
def t_law_is_unknown (K : PySem.W.Frag) (a : Addr) (E : XK) : TS := (tSeq (tIfS (tOr (tB (tCB (rIsE K (He.ga K "Unknown") a) (tCons (tVar 0) (tCons (tC (.ref (He.ga K "BadText"))) tNil)))) (tOr (tB (tCB (rIsE K (He.ga K "Unknown") a) (tCons (tVar 0) (tCons (tC (.ref (He.ga K "BadValue"))) tNil)))) (tB (tCB (rIsE K (He.ga K "Unknown") a) (tCons (tVar 0) (tCons (tC (.ref (He.ga K "NoMove"))) tNil)))))) (tRet (tC (.bl false))) tNext) (tRet (tAndV (tCB (rIsE K (He.ga K "Unknown") a) (tCons (tVar 0) (tCons (tC (.ref (He.ga K "Unknown"))) tNil))) (tCB (rIsE K (He.ga K "Unknown") a) (tCons (tVar 0) (tCons (tC (.ty "ValueError")) tNil))))))
theorem len_law_is_unknown {K : PySem.W.Frag} {a : Addr} {vs : List V} {H : Hp} {Q : VK} {E : XK} (h : sp_law_is_unknown K a vs H Q E) : vs.length = 1 := by
  obtain ⟨rfl, _⟩ := h; rfl
theorem pure_law_is_unknown {K : PySem.W.Frag} (F : FUnkE K) (a : Addr) (vs : List V) (H : Hp) (Q : VK) (E : XK) (h : sp_law_is_unknown K a vs H Q E) : t_law_is_unknown K a E { nx := fun _ H' => Q .non H', rt := Q } (start N_law_is_unknown vs) H := by
  obtain ⟨rfl, q⟩ := h
  obtain ⟨f1, f2, f3, f4, f5⟩ := F
  unfold t_law_is_unknown
  repeat walk_at "mst"
  exact q
theorem use_unknown {K : PySem.W.Frag} {a : Addr} {H : Hp} {Q : VK} {E : XK} (q : Q (.bl true) H) : sp_law_is_unknown K a ([.ref a] ++ []) H Q E := ⟨rfl, q⟩
structure FPlE (K : PySem.W.Frag) : Prop where
  ex : PySem.W.exmOne K (.ref (He.ga K "Unknown")) (.ref (He.ga K "PlayError")) = some true
def sp_law_refused (P : Program) (w : World) (K : PySem.W.Frag) : Sp := fun vs H Q _ => ∃ (F : Foot) (G : List Pr) (hs : List Int) (ts : List (Key × V)) (word : Nat) (g b : Int), vs = [.ref F.y, .int word, .int g, .int b] ∧ YardAt P w K H F G hs ts ∧ (0 ≤ g ∧ g < G.length) ∧ ¬ (0 ≤ b ∧ b < G.length) ∧ ∀ H', Ex H H' → Q (.bl true) H'
local macro_rules | `(tactic| walk_at "mst") => `(tactic| first
  | with_reducible refine k_tryAs ?_
  | with_reducible refine k_when ⟨rfl, rfl⟩ ?_
  | with_reducible refine k_methE ?_
  | with_reducible refine k_callE ?_
  | with_reducible refine use_unknown ?_)
local macro_rules | `(tactic| walk_at "new") => `(tactic| ((first | refine ⟨fits (Nat.le_of_ble_eq_true rfl), ?_⟩ | skip); intro p np; generalize hq : upd _ p _ = H1; have e1 := nx np hq; have s1 := nS hq; clear hq))
abbrev N_law_refused : List Str := ["yard", "word", "good", "bad", "e"]
def t_law_refused (P : Program) (w : World) (K : PySem.W.Frag) (E : XK) : TS := (tSeq (tTryAs K (.ref (He.ga K "PlayError")) 4 (fun W => (tIfS (tTest (tOp rEq (tVar 1) (tC (.int 0)))) (tDrop (tMethE (He.ga K "Yard") "game" (sp_Yard_m_game P w K) (WE W) (tVar 0) (tCons (tLst (tCons (tVar 2) (tCons (tVar 3) tNil))) (tCons (tLst tNil) tNil)))) (tIfS (tTest (tOp rEq (tVar 1) (tC (.int 1)))) (tDrop (tMethE (He.ga K "Yard") "game" (sp_Yard_m_game P w K) (WE W) (tVar 0) (tCons (tLst (tCons (tVar 2) tNil)) (tCons (tLst (tCons (tVar 3) (tCons (tVar 2) tNil))) tNil)))) (tIfS (tTest (tOp rEq (tVar 1) (tC (.int 2)))) (tDrop (tMethE (He.ga K "Yard") "game" (sp_Yard_m_game P w K) (WE W) (tVar 0) (tCons (tLst (tCons (tVar 3) tNil)) (tCons (tLst (tCons (tVar 3) tNil)) tNil)))) (tIfS (tTest (tOp rEq (tVar 1) (tC (.int 3)))) (tDrop (tMethE (He.ga K "Yard") "lefts" (sp_Yard_m_lefts P w K) (WE W) (tVar 0) (tCons (tVar 3) tNil))) (tIfS (tTest (tOp rEq (tVar 1) (tC (.int 4)))) (tDrop (tMethE (He.ga K "Yard") "rights" (sp_Yard_m_rights P w K) (WE W) (tVar 0) (tCons (tVar 3) tNil))) (tIfS (tTest (tOp rEq (tVar 1) (tC (.int 5)))) (tDrop (tMethE (He.ga K "Yard") "options" (sp_Yard_m_options P w K) (WE W) (tVar 0) (tCons (tVar 3) (tCons (tC (.str "left")) tNil)))) (tIfS (tTest (tOp rEq (tVar 1) (tC (.int 6)))) (tDrop (tMethE (He.ga K "Yard") "options" (sp_Yard_m_options P w K) (WE W) (tVar 0) (tCons (tVar 3) (tCons (tC (.str "right")) tNil)))) (tIfS (tTest (tOp rEq (tVar 1) (tC (.int 7)))) (tDrop (tMethE (He.ga K "Yard") "height" (sp_Yard_m_height P w K) (WE W) (tVar 0) (tCons (tVar 3) tNil))) (tIfS (tTest (tOp rEq (tVar 1) (tC (.int 8)))) (tDrop (tMethE (He.ga K "Yard") "followers" (sp_Yard_m_followers P w K) (WE W) (tVar 0) (tCons (tVar 3) tNil))) (tDrop (tMethE (He.ga K "Yard") "turned" (sp_Yard_m_turned P w K) (WE W) (tVar 0) (tCons (tVar 3) tNil))))))))))))) (fun a cls d => tWhen (cls = .ref (He.ga K "Unknown") ∧ d = none) (tRet (tCallE (sp_law_is_unknown K) a E0 (tCons (tVar 4) tNil))))) (tRet (tC (.bl false))))
theorem len_law_refused {P : Program} {w : World} {K : PySem.W.Frag} {vs : List V} {H : Hp} {Q : VK} {E : XK} (h : sp_law_refused P w K vs H Q E) : vs.length = 4 := by
  obtain ⟨_, _, _, _, _, _, _, rfl, _⟩ := h; rfl
theorem pure_law_refused {P : Program} {w : World} {K : PySem.W.Frag} (FP : FPlE K) (vs : List V) (H : Hp) (Q : VK) (E : XK) (h : sp_law_refused P w K vs H Q E) : t_law_refused P w K E { nx := fun _ H' => Q .non H', rt := Q } (start N_law_refused vs) H := by
  obtain ⟨F, G, hs, ts, word, g, b, rfl, Y, gd, bd, q⟩ := h
  unfold t_law_refused
  repeat walk_at "mst"
  refine k_iteD (fun h => ?_) (fun h => ?_)
  · repeat walk_at "mst"
    refine Y.meth (by decide +kernel) (by decide +kernel) (by decide +kernel) (by decide +kernel) (by decide +kernel) ?_
    repeat walk_at "mst"
    refine ⟨(show 2 ≤ sizeLine by decide), fun l1 n1 => ?_⟩
    have e1 := Evl.Ex.new (o := HO.lst ([V.int g, V.int b] : List V)) n1
    have s1 : upd H l1 (HO.lst ([V.int g, V.int b] : List V)) l1 = some (HO.lst [V.int g, V.int b]) := upd_same
    generalize upd H l1 (HO.lst ([V.int g, V.int b] : List V)) = H1 at *
    repeat walk_at "mst"
    refine ⟨(show 0 ≤ sizeLine by decide), fun l2 n2 => ?_⟩
    have e2 := Evl.Ex.new (o := HO.lst ([] : List V)) n2
    have s2 : upd H1 l2 (HO.lst ([] : List V)) l2 = some (HO.lst []) := upd_same
    generalize upd H1 l2 (HO.lst ([] : List V)) = H2 at *
    repeat walk_at "mst"
    refine useB_game (ls := [g, b]) (rs := []) ((Y.ex e1).ex e2) (k_sq (e2 _ _ s1)) (k_sq s2) (fun h => bd (h b (by simp))) fun H' e => ?_
    refine k_wAs FP.ex fun a ha => ?_
    repeat walk_at "mst"
    exact q _ ((e1.trans e2).trans e)
  repeat walk_at "mst"
  refine k_iteD (fun h => ?_) (fun h => ?_)
  · repeat walk_at "mst"
    refine Y.meth (by decide +kernel) (by decide +kernel) (by decide +kernel) (by decide +kernel) (by decide +kernel) ?_
    repeat walk_at "mst"
    refine ⟨(show 1 ≤ sizeLine by decide), fun l1 n1 => ?_⟩
    have e1 := Evl.Ex.new (o := HO.lst ([V.int g] : List V)) n1
    have s1 : upd H l1 (HO.lst ([V.int g] : List V)) l1 = some (HO.lst [V.int g]) := upd_same
    generalize upd H l1 (HO.lst ([V.int g] : List V)) = H1 at *
    repeat walk_at "mst"
    refine ⟨(show 2 ≤ sizeLine by decide), fun l2 n2 => ?_⟩
    have e2 := Evl.Ex.new (o := HO.lst ([V.int b, V.int g] : List V)) n2
    have s2 : upd H1 l2 (HO.lst ([V.int b, V.int g] : List V)) l2 = some (HO.lst [V.int b, V.int g]) := upd_same
    generalize upd H1 l2 (HO.lst ([V.int b, V.int g] : List V)) = H2 at *
    repeat walk_at "mst"
    refine useB_game (ls := [g]) (rs := [b, g]) ((Y.ex e1).ex e2) (k_sq (e2 _ _ s1)) (k_sq s2) (fun h => bd (h b (by simp))) fun H' e => ?_
    refine k_wAs FP.ex fun a ha => ?_
    repeat walk_at "mst"
    exact q _ ((e1.trans e2).trans e)
  repeat walk_at "mst"
  refine k_iteD (fun h => ?_) (fun h => ?_)
  · repeat walk_at "mst"
    refine Y.meth (by decide +kernel) (by decide +kernel) (by decide +kernel) (by decide +kernel) (by decide +kernel) ?_
    repeat walk_at "mst"
    refine ⟨(show 1 ≤ sizeLine by decide), fun l1 n1 => ?_⟩
    have e1 := Evl.Ex.new (o := HO.lst ([V.int b] : List V)) n1
    have s1 : upd H l1 (HO.lst ([V.int b] : List V)) l1 = some (HO.lst [V.int b]) := upd_same
    generalize upd H l1 (HO.lst ([V.int b] : List V)) = H1 at *
    repeat walk_at "mst"
    refine ⟨(show 1 ≤ sizeLine by decide), fun l2 n2 => ?_⟩
    have e2 := Evl.Ex.new (o := HO.lst ([V.int b] : List V)) n2
    have s2 : upd H1 l2 (HO.lst ([V.int b] : List V)) l2 = some (HO.lst [V.int b]) := upd_same
    generalize upd H1 l2 (HO.lst ([V.int b] : List V)) = H2 at *
    repeat walk_at "mst"
    refine useB_game (ls := [b]) (rs := [b]) ((Y.ex e1).ex e2) (k_sq (e2 _ _ s1)) (k_sq s2) (fun h => bd (h b (by simp))) fun H' e => ?_
    refine k_wAs FP.ex fun a ha => ?_
    repeat walk_at "mst"
    exact q _ ((e1.trans e2).trans e)
  repeat walk_at "mst"
  refine k_iteD (fun h => ?_) (fun h => ?_)
  · repeat walk_at "mst"
    refine Y.meth (by decide +kernel) (by decide +kernel) (by decide +kernel) (by decide +kernel) (by decide +kernel) ?_
    repeat walk_at "mst"
    refine useB_lefts Y bd fun H' e => ?_
    refine k_wAs FP.ex fun a ha => ?_
    repeat walk_at "mst"
    exact q _ e
  repeat walk_at "mst"
  refine k_iteD (fun h => ?_) (fun h => ?_)
  · repeat walk_at "mst"
    refine Y.meth (by decide +kernel) (by decide +kernel) (by decide +kernel) (by decide +kernel) (by decide +kernel) ?_
    repeat walk_at "mst"
    refine useB_rights Y bd fun H' e => ?_
    refine k_wAs FP.ex fun a ha => ?_
    repeat walk_at "mst"
    exact q _ e
  repeat walk_at "mst"
  refine k_iteD (fun h => ?_) (fun h => ?_)
  · repeat walk_at "mst"
    refine Y.meth (by decide +kernel) (by decide +kernel) (by decide +kernel) (by decide +kernel) (by decide +kernel) ?_
    repeat walk_at "mst"
    refine useB_options Y bd fun H' e => ?_
    refine k_wAs FP.ex fun a ha => ?_
    repeat walk_at "mst"
    exact q _ e
  repeat walk_at "mst"
  refine k_iteD (fun h => ?_) (fun h => ?_)
  · repeat walk_at "mst"
    refine Y.meth (by decide +kernel) (by decide +kernel) (by decide +kernel) (by decide +kernel) (by decide +kernel) ?_
    repeat walk_at "mst"
    refine useB_options Y bd fun H' e => ?_
    refine k_wAs FP.ex fun a ha => ?_
    repeat walk_at "mst"
    exact q _ e
  repeat walk_at "mst"
  refine k_iteD (fun h => ?_) (fun h => ?_)
  · repeat walk_at "mst"
    refine Y.meth (by decide +kernel) (by decide +kernel) (by decide +kernel) (by decide +kernel) (by decide +kernel) ?_
    repeat walk_at "mst"
    refine useB_height Y bd fun H' e => ?_
    refine k_wAs FP.ex fun a ha => ?_
    repeat walk_at "mst"
    exact q _ e
  repeat walk_at "mst"
  refine k_iteD (fun h => ?_) (fun h => ?_)
  · repeat walk_at "mst"
    refine Y.meth (by decide +kernel) (by decide +kernel) (by decide +kernel) (by decide +kernel) (by decide +kernel) ?_
    repeat walk_at "mst"
    refine useB_followers Y bd fun H' e => ?_
    refine k_wAs FP.ex fun a ha => ?_
    repeat walk_at "mst"
    exact q _ e
  repeat walk_at "mst"
  repeat walk_at "mst"
  refine Y.meth (by decide +kernel) (by decide +kernel) (by decide +kernel) (by decide +kernel) (by decide +kernel) ?_
  repeat walk_at "mst"
  refine useB_turned Y bd fun H' e => ?_
  refine k_wAs FP.ex fun a ha => ?_
  repeat walk_at "mst"
  exact q _ e
theorem use_refused {P : Program} {w : World} {K : PySem.W.Frag} {H : Hp} {Q : VK} {E : XK} {F : Foot} {G : List Pr} {hs : List Int} {ts : List (Key × V)} {word : Nat} {g b : Int} (Y : YardAt P w K H F G hs ts) (gd : 0 ≤ g ∧ g < G.length) (bd : ¬ (0 ≤ b ∧ b < G.length)) (q : ∀ H', Ex H H' → Q (.bl true) H') : sp_law_refused P w K ([.ref F.y, .int word, .int g, .int b] ++ []) H Q E := ⟨F, G, hs, ts, word, g, b, rfl, Y, gd, bd, q⟩
def sp_law_all_integers (K : PySem.W.Frag) : Sp := fun vs H Q _ => ∃ (p : Addr) (ns : List Int), vs = [.ref p] ∧ SqL K H p (ns.map V.int) ∧ ns.length ≤ 1000 ∧ ∀ H', Ex H H' → Q (.bl true) H'
abbrev N_law_all_integers : List Str := ["numbers", "number"]
def t_law_all_integers (K : PySem.W.Frag) (E : XK) : TS := (tRet (tOp rEq (tCB (rLenQ K) (tCons (tLc (iList K (tVar 0)) (gName 1) (tNot (tB (tCall (sp_law_is_integer K) [] E0 (tCons (tVar 1) tNil)))) (tVar 1) [1]) tNil)) (tC (.int 0))))
theorem len_law_all_integers {K : PySem.W.Frag} {vs : List V} {H : Hp} {Q : VK} {E : XK} (h : sp_law_all_integers K vs H Q E) : vs.length = 1 := by
  obtain ⟨_, _, rfl, _⟩ := h; rfl
theorem pure_law_all_integers {K : PySem.W.Frag} (vs : List V) (H : Hp) (Q : VK) (E : XK) (h : sp_law_all_integers K vs H Q E) : t_law_all_integers K E { nx := fun _ H' => Q .non H', rt := Q } (start N_law_all_integers vs) H := by
  obtain ⟨p, ns, rfl, hp, few, q⟩ := h
  unfold t_law_all_integers
  repeat walk_at "mst"
  refine ⟨p, rfl, ⟨_, hp⟩, lcR_list (K := K) (fun v => if false = true then some v else none) hp (by rw [List.length_map]; exact Nat.lt_of_le_of_lt few (by decide)) (fun x hx => ?_) fun D1 H1 nD1 e1 hD1 => ?_⟩
  · obtain ⟨k, hk, rfl⟩ := List.mem_map.mp hx
    refine turn_flt (b := false) fun H'' e R r => ?_
    repeat walk_at "mst"
    exact r
  · have z : (ns.map V.int).filterMap (fun v => if false = true then some v else none) = [] := by
      rw [List.filterMap_eq_nil_iff]
      intro a _
      rfl
    rw [z] at hD1
    repeat walk_at "mst"
    exact q H1 e1
theorem use_all_integers {K : PySem.W.Frag} {H : Hp} {Q : VK} {E : XK} {p : Addr} {ns : List Int} (h : SqL K H p (ns.map V.int)) (few : ns.length ≤ 1000) (q : ∀ H', Ex H H' → Q (.bl true) H') : sp_law_all_integers K ([.ref p] ++ []) H Q E := ⟨p, ns, rfl, h, few, q⟩
def sp_law_is_list (K : PySem.W.Frag) : Sp := fun vs H Q _ => ∃ (p d : Addr) (ns : List Int), vs = [.ref p, .ref d] ∧ H p = some (.lst (ns.map V.int)) ∧ SqL K H d (ns.map V.int) ∧ ns.length ≤ 1000 ∧ ∀ H', Ex H H' → Q (.bl true) H'
abbrev N_law_is_list : List Str := ["told", "due"]
def t_law_is_list (K : PySem.W.Frag) (E : XK) : TS := (tRet (tAndV (tCB (rIsi K) (tCons (tVar 0) (tCons (tC (.ty "list")) tNil))) (tAndV (tCall (sp_law_all_integers K) [] E0 (tCons (tVar 0) tNil)) (tOp (rEqD K) (tVar 0) (tVar 1)))))
theorem len_law_is_list {K : PySem.W.Frag} {vs : List V} {H : Hp} {Q : VK} {E : XK} (h : sp_law_is_list K vs H Q E) : vs.length = 2 := by
  obtain ⟨_, _, _, rfl, _⟩ := h; rfl
theorem pure_law_is_list {K : PySem.W.Frag} (vs : List V) (H : Hp) (Q : VK) (E : XK) (h : sp_law_is_list K vs H Q E) : t_law_is_list K E { nx := fun _ H' => Q .non H', rt := Q } (start N_law_is_list vs) H := by
  obtain ⟨p, d, ns, rfl, hp, hd, few, q⟩ := h
  unfold t_law_is_list
  repeat walk_at "mst"
  refine k_isi (cls_ty "list") (.base (.lst hp)) (kit_ty (b := "list") (r := true) (by decide +kernel)) ?_
  repeat walk_at "mst"
  refine use_all_integers (k_sq hp) few fun H1 e1 => ?_
  repeat walk_at "mst"
  refine k_eqIs (k_sq (e1 _ _ hp)) (Evl.ex_l e1 hd) ?_
  rw [decide_eq_true rfl]
  exact q H1 e1
theorem use_is_list {K : PySem.W.Frag} {H : Hp} {Q : VK} {E : XK} {p d : Addr} {ns : List Int} (h : H p = some (.lst (ns.map V.int))) (h2 : SqL K H d (ns.map V.int)) (few : ns.length ≤ 1000) (q : ∀ H', Ex H H' → Q (.bl true) H') : sp_law_is_list K ([.ref p, .ref d] ++ []) H Q E := ⟨p, d, ns, rfl, h, h2, few, q⟩
def sp_law_read (P : Program) (w : World) (K : PySem.W.Frag) : Sp := fun vs H Q _ => ∃ (Z : Addr → Prop) (A : Adr) (M G : List Pr) (hts hs ns : List Int) (ts : List (Key × V)) (k : Nat), vs = [.ref A.F.y, .ref A.st, .int k] ∧ Sd P w K Z H A M G hts hs ns ts ∧ k < M.length ∧ M.length ≤ 200 ∧ ∀ H', Ex H H' → Q (.bl true) H'
abbrev N_law_read : List Str := ["yard", "state", "at", "model", "numbers", "rows", "dues", "k", "i", "row", "height"]
def t_law_read (P : Program) (w : World) (K : PySem.W.Frag) (E : XK) : TS := (tSeq (tAsg (tOp (rIxT K) (tVar 1) (tC (.int 0))) (gName 3)) (tSeq (tAsg (tOp (rIxT K) (tVar 1) (tC (.int 2))) (gName 4)) (tSeq (tAsg (tLst (tCons (tMeth (He.ga K "Yard") "lefts" (sp_Yard_m_lefts P w K) [] E0 (tVar 0) (tCons (tOp (rIxL K) (tVar 4) (tVar 2)) tNil)) (tCons (tMeth (He.ga K "Yard") "rights" (sp_Yard_m_rights P w K) [] E0 (tVar 0) (tCons (tOp (rIxL K) (tVar 4) (tVar 2)) tNil)) (tCons (tMeth (He.ga K "Yard") "followers" (sp_Yard_m_followers P w K) [] E0 (tVar 0) (tCons (tOp (rIxL K) (tVar 4) (tVar 2)) tNil)) tNil)))) (gName 5)) (tSeq (tAsg (tLst (tCons (tOp (rIxT K) (tOp (rIxL K) (tVar 3) (tVar 2)) (tC (.int 0))) (tCons (tOp (rIxT K) (tOp (rIxL K) (tVar 3) (tVar 2)) (tC (.int 1))) (tCons (tCall (sp_law_followers K) [] E0 (tCons (tVar 3) (tCons (tVar 2) tNil))) tNil)))) (gName 6)) (tSeq (tFor (iRng1 (tCons (tC (.int 3)) tNil)) (gName 7) (tSeq (tIfS (tNot (tB (tCall (sp_law_is_list K) [] E0 (tCons (tOp (rIxL K) (tVar 5) (tVar 7)) (tCons (tCB (rSortedI K) (tCons (tLc (iList K (tOp (rIxL K) (tVar 6) (tVar 7))) (gName 8) tYes (tOp (rIxL K) (tVar 4) (tVar 8)) [8]) tNil)) tNil))))) (tRet (tC (.bl false))) tNext) (tSeq (tAsg (tOp (rIxL K) (tVar 5) (tVar 7)) (gName 9)) (tSeq (tDrop (tBM K "list" rAppend (tVar 9) (tCons (tOp (rIxL K) (tVar 4) (tVar 2)) tNil))) (tDrop (tBM0 K "list" rReverse (tVar 9))))))) (tSeq (tAsg (tMeth (He.ga K "Yard") "height" (sp_Yard_m_height P w K) [] E0 (tVar 0) (tCons (tOp (rIxL K) (tVar 4) (tVar 2)) tNil)) (gName 10)) (tRet (tAndV (tCall (sp_law_is_integer K) [] E0 (tCons (tVar 10) tNil)) (tOp rEq (tVar 10) (tOp (rIxL K) (tOp (rIxT K) (tVar 1) (tC (.int 1))) (tVar 2)))))))))))
theorem len_law_read {P : Program} {w : World} {K : PySem.W.Frag} {vs : List V} {H : Hp} {Q : VK} {E : XK} (h : sp_law_read P w K vs H Q E) : vs.length = 3 := by
  obtain ⟨_, _, _, _, _, _, _, _, _, rfl, _⟩ := h; rfl
theorem pure_law_read {P : Program} {w : World} {K : PySem.W.Frag} (vs : List V) (H : Hp) (Q : VK) (E : XK) (h : sp_law_read P w K vs H Q E) : t_law_read P w K E { nx := fun _ H' => Q .non H', rt := Q } (start N_law_read vs) H := by
  obtain ⟨Z, A, M, G, hts, hs, ns, ts, k, rfl, S, hk, few, q⟩ := h
  have hst := S.st
  have nsl := S.I.len
  have gl := S.I.len2
  have hn := S.hn
  have hM : M[k]? = some M[k] := List.getElem?_eq_getElem hk
  have e := nat_get (ns := ns) (j := (k : Int)) (by omega) (by omega) nsl
  rw [Int.toNat_natCast] at e
  obtain ⟨g, hg, t1, t2⟩ := S.I.fm k _ _ hM e
  have rng := S.I.rng _ (List.mem_of_getElem? e)
  have heq := Emb.ht S.I.toEmb S.FM S.O S.Y.ht (k + 1) k (Nat.lt_succ_self k) hk
  have bk := S.I.toEmb.rch_back S.FM (k := (k : Int)) (x := 0)
  have hat_n : atI (ns.map V.int) (k : Int) = some (V.int (nat_ ns k)) := nat_at (by omega) (by omega) nsl
  have rcf := fun j => S.I.toEmb.rch S.FM (k := (k : Int)) (j := j) ⟨by omega, by omega⟩
  have rcb := fun x => S.I.toEmb.rch_back S.FM (k := (k : Int)) (x := x) ⟨by omega, by omega⟩
  obtain ⟨n, en⟩ : ∃ n : Nat, nat_ ns (k : Int) = n := ⟨(nat_ ns (k : Int)).toNat, by omega⟩
  rw [en] at hat_n hg rng heq rcf rcb
  rw [Int.toNat_natCast] at hg
  have am := S.FM.asc k _ hM
  generalize M[k] = p at *
  obtain ⟨xs, hm, fs⟩ := id S.mo
  unfold t_law_read
  repeat walk_at "mst"
  refine S.Y.meth (by decide +kernel) (by decide +kernel) (by decide +kernel) (by decide +kernel) (by decide +kernel) ?_
  repeat walk_at "mst"
  refine k_ixL (k_sq hn) hat_n ?_
  repeat walk_at "mst"
  refine use_lefts S.Y hg fun a0 H1 n0 e1 h0 => ?_
  have Y1 := S.Y.ex e1
  have hn1 := e1 _ _ hn
  repeat walk_at "mst"
  refine Y1.meth (by decide +kernel) (by decide +kernel) (by decide +kernel) (by decide +kernel) (by decide +kernel) ?_
  repeat walk_at "mst"
  refine k_ixL (k_sq hn1) hat_n ?_
  repeat walk_at "mst"
  refine use_rights Y1 hg fun a1 H2 n1 e2 h1 => ?_
  have Y2 := Y1.ex e2
  have hn2 := e2 _ _ hn1
  repeat walk_at "mst"
  refine Y2.meth (by decide +kernel) (by decide +kernel) (by decide +kernel) (by decide +kernel) (by decide +kernel) ?_
  repeat walk_at "mst"
  refine k_ixL (k_sq hn2) hat_n ?_
  repeat walk_at "mst"
  refine use_followers Y2 (k := (n : Int)) ⟨by omega, by omega⟩ (by omega) fun a2 qs H3 n2 e3 h2 qasc qmem => ?_
  have e02 := e1.trans e2
  have e03 := e02.trans e3
  have S3 := S.ex e03
  have n10 : H a1 = none := Evl.fresh_back e1 n1
  have n20 : H a2 = none := Evl.fresh_back e02 n2
  have d01 : a1 ≠ a0 := (ne_of_none h0 n1).symm
  have d02 : a2 ≠ a0 := (ne_of_none (e2 _ _ h0) n2).symm
  have d12 : a2 ≠ a1 := (ne_of_none h1 n2).symm
  have h03 := e3 _ _ (e2 _ _ h0)
  have h13 := e3 _ _ h1
  repeat walk_at "mst"
  refine ⟨by show 3 ≤ sizeLine; decide, fun R nR => ?_⟩
  have e4 := Evl.Ex.new (o := HO.lst [V.ref a0, V.ref a1, V.ref a2]) nR
  have s4 : upd H3 R (HO.lst [V.ref a0, V.ref a1, V.ref a2]) R = some (HO.lst [V.ref a0, V.ref a1, V.ref a2]) := upd_same
  generalize upd H3 R (HO.lst [V.ref a0, V.ref a1, V.ref a2]) = H4 at *
  have e04 := e03.trans e4
  have S4 := S.ex e04
  have hm4 := e04 _ _ hm
  obtain ⟨fa, hfa, c, d, hp, hc, hd, zc, zd⟩ := (fs.ex e04).2 k p hM
  have zc0 : H c ≠ none := fun z => by
    obtain ⟨fa', hfa', c', d', hp', hc', _, _, _⟩ := fs.2 k p hM
    rw [hfa] at hfa'; cases hfa'
    rw [e04 _ _ hp'] at hp; cases hp
    rw [z] at hc'; cases hc'
  have zd0 : H d ≠ none := fun z => by
    obtain ⟨fa', hfa', c', d', hp', _, hd', _, _⟩ := fs.2 k p hM
    rw [hfa] at hfa'; cases hfa'
    rw [e04 _ _ hp'] at hp; cases hp
    rw [z] at hd'; cases hd'
  repeat walk_at "mst"
  refine k_ixL (k_sq hm4) (atI_nat hfa) ?_
  repeat walk_at "mst"
  refine k_ixL (k_sq hm4) (atI_nat hfa) ?_
  repeat walk_at "mst"
  refine use_lfollowers S4.mo S.FM hk few fun f rs H5 nf e5 hf rasc rmem => ?_
  have e05 := e04.trans e5
  have nf0 : H f = none := Evl.fresh_back e04 nf
  have df : ∀ a o, H4 a = some o → f ≠ a := fun a o h => (ne_of_none h nf).symm
  repeat walk_at "mst"
  refine ⟨by show 3 ≤ sizeLine; decide, fun D nD => ?_⟩
  have e6 := Evl.Ex.new (o := HO.lst [V.ref c, V.ref d, V.ref f]) nD
  have s6 : upd H5 D (HO.lst [V.ref c, V.ref d, V.ref f]) D = some (HO.lst [V.ref c, V.ref d, V.ref f]) := upd_same
  generalize upd H5 D (HO.lst [V.ref c, V.ref d, V.ref f]) = H6 at *
  have e06 := e05.trans e6
  have e46 := e5.trans e6
  have rb : ∀ x ∈ rs, 0 ≤ x ∧ x < (M.length : Int) := fun x m => by
    have := ((rmem x).mp m).bound S.FM ⟨by omega, by omega⟩
    omega
  have tq : Told ns rs qs := ⟨qasc, fun x => (qmem x).trans ⟨fun r => by
    obtain ⟨j, rj, _, ej⟩ := rcb x r
    exact ⟨j, (rmem j).mpr rj, ej⟩, fun ⟨j, mj, ej⟩ => by
    rw [← ej]; exact (rcf j ((rmem j).mp mj)).2⟩⟩
  have dD : ∀ a o, H5 a = some o → D ≠ a := fun a o h => (ne_of_none h nD).symm
  have ap : ∀ l : List Int, Asc k l → (∀ x ∈ l, 0 ≤ x ∧ x < (M.length : Int)) := fun l a x m => by have := a.2 x m; omega
  repeat walk_at "mst"
  refine ⟨3, rfl, by decide, by decide, ?_⟩
  refine forK_range (fun i σ H' => ∃ x7 x8 x9 : Option V, Ex H H' ∧ H' R = some (.lst [V.ref a0, V.ref a1, V.ref a2]) ∧ H' D = some (.lst [V.ref c, V.ref d, V.ref f]) ∧ H' f = some (.lst (rs.map V.int)) ∧ (i ≤ 0 → H' a0 = some (.lst (g.1.map V.int))) ∧ (i ≤ 1 → H' a1 = some (.lst (g.2.map V.int))) ∧ (i ≤ 2 → H' a2 = some (.lst (qs.map V.int))) ∧
    σ = [some (.ref A.F.y), some (.ref A.st), some (.int (k : Int)), some (.ref A.m), some (.ref A.np), some (.ref R), some (.ref D), x7, x8, x9, none]) ⟨none, none, none, e06, e46 _ _ s4, s6, e6 _ _ hf, fun _ => e46 _ _ (e4 _ _ h03), fun _ => e46 _ _ (e4 _ _ h13), fun _ => e46 _ _ (e4 _ _ h2), rfl⟩ ?_ ?_
  · rintro i σ H' hi ⟨x7, x8, x9, e', hR, hD, hf', u0, u1, u2, rfl⟩
    have hi : i < 3 := hi
    have hR0 : H R = none := Evl.fresh_back e03 nR
    have hD0 : H D = none := Evl.fresh_back e05 nD
    have RD : D ≠ R := dD R _ (e5 _ _ s4)
    have hc0 : H' c = some (.lst (p.1.map V.int)) := by
      cases z : H c with
      | none => exact absurd z zc0
      | some o => rw [e04 _ _ z] at hc; rw [e' _ _ z]; exact hc
    have hd0 : H' d = some (.lst (p.2.map V.int)) := by
      cases z : H d with
      | none => exact absurd z zd0
      | some o => rw [e04 _ _ z] at hd; rw [e' _ _ z]; exact hd
    obtain ⟨a, dd, l, as, iR, iD, ha, hdd, na, ne1, ne2, ne3, tl, al, bl, nx⟩ : ∃ (a dd : Addr) (l as : List Int), atI [V.ref a0, V.ref a1, V.ref a2] (i : Int) = some (V.ref a) ∧ atI [V.ref c, V.ref d, V.ref f] (i : Int) = some (V.ref dd) ∧ H' a = some (.lst (as.map V.int)) ∧ H' dd = some (.lst (l.map V.int)) ∧ H a = none ∧ R ≠ a ∧ D ≠ a ∧ f ≠ a ∧
        Told ns l as ∧ l.Pairwise (· < ·) ∧ (∀ x ∈ l, 0 ≤ x ∧ x < (M.length : Int)) ∧ ∀ H'' : Hp, (∀ b o, H' b = some o → b ≠ a → H'' b = some o) → (i + 1 ≤ 0 → H'' a0 = some (.lst (g.1.map V.int))) ∧ (i + 1 ≤ 1 → H'' a1 = some (.lst (g.2.map V.int))) ∧ (i + 1 ≤ 2 → H'' a2 = some (.lst (qs.map V.int))) := by
      match i, hi with
      | 0, _ => exact ⟨a0, c, p.1, g.1, rfl, rfl, u0 (by omega), hc0, n0, (ne_of_none h03 nR).symm, dD _ _ (e5 _ _ (e4 _ _ h03)), df _ _ (e4 _ _ h03), t1, am.1.1, ap _ am.1, fun H'' k => ⟨fun h => absurd h (by omega), fun _ => k _ _ (u1 (by omega)) d01, fun _ => k _ _ (u2 (by omega)) d02⟩⟩
      | 1, _ => exact ⟨a1, d, p.2, g.2, rfl, rfl, u1 (by omega), hd0, n10, (ne_of_none h13 nR).symm, dD _ _ (e5 _ _ (e4 _ _ h13)), df _ _ (e4 _ _ h13), t2, am.2.1, ap _ am.2, fun H'' k => ⟨fun h => absurd h (by omega), fun h => absurd h (by omega), fun _ => k _ _ (u2 (by omega)) d12⟩⟩
      | 2, _ => exact ⟨a2, f, rs, qs, rfl, rfl, u2 (by omega), hf', n20, (ne_of_none h2 nR).symm, dD _ _ (e5 _ _ (e4 _ _ h2)), df _ _ (e4 _ _ h2), tq, rasc, rb, fun H'' k => ⟨fun h => absurd h (by omega), fun h => absurd h (by omega), fun h => absurd h (by omega)⟩⟩
    have hn' := e' _ _ hn
    have ll : l.length ≤ 200 := by have := Asc.len (n := M.length) ⟨al, bl⟩; omega
    have asl : as.length ≤ 1000 := by
      have := nodup_le as (l.map (nat_ ns)) (tl.1.imp fun h => Int.ne_of_lt h) fun x m => List.mem_map.mpr ((tl.2 x).mp m)
      rw [List.length_map] at this; omega
    repeat walk_at "mst"
    refine k_ixL (k_sq hR) iR ?_
    repeat walk_at "mst"
    refine k_ixL (k_sq hD) iD ?_
    refine ⟨dd, rfl, ⟨_, k_sq hdd⟩, lcR_list (K := K) (onI (nat_ ns)) (k_sq hdd) (by rw [List.length_map]; exact Nat.lt_of_le_of_lt ll (by decide)) (fun x hx => ?_) fun D1 H7 nD1 e7 hD1 => ?_⟩
    · obtain ⟨z, mz, rfl⟩ := List.mem_map.mp hx
      have bz := bl z mz
      refine turn_map fun H'' e R r => ?_
      have hn'' := e _ _ hn'
      repeat walk_at "mst"
      exact k_ixL (k_sq hn'') (nat_at bz.1 bz.2 nsl) r
    rw [onI_map] at hD1
    repeat walk_at "mst"
    refine ⟨_, _, rfl, k_sq hD1, fun ns' p' pm le np' => ?_⟩
    have es := told_sorted tl (fun x mx y my => S.I.toEmb.inj (bl x mx) (bl y my)) (al.imp fun h => Int.ne_of_lt h) pm le
    subst es
    have e8 := Evl.Ex.new (o := HO.lst (ns'.map V.int)) np'
    have s8 : upd H7 p' (HO.lst (ns'.map V.int)) p' = some (HO.lst (ns'.map V.int)) := upd_same
    generalize upd H7 p' (HO.lst (ns'.map V.int)) = H8 at *
    have e78 := e7.trans e8
    repeat walk_at "mst"
    refine use_is_list (e78 _ _ ha) (k_sq s8) asl fun H9 e9 => ?_
    have e79 := e78.trans e9
    have ha9 := e79 _ _ ha
    have hR9 := e79 _ _ hR
    have hD9 := e79 _ _ hD
    have hf9 := e79 _ _ hf'
    have hn9 := e79 _ _ hn'
    have e09 := e'.trans e79
    repeat walk_at "mst"
    refine k_ixL (k_sq hR9) iR ?_
    repeat walk_at "mst"
    refine k_ixL (k_sq hn9) hat_n ?_
    repeat walk_at "mst"
    · rw [List.length_map]; exact Nat.lt_of_le_of_lt asl (by decide)
    have b10 : ∀ b o, H9 b = some o → b ≠ a → upd H9 a (HO.lst (ns'.map V.int ++ [V.int (n : Int)])) b = some o := fun b o h ne => (upd_ne ne).trans h
    have s10 : upd H9 a (HO.lst (ns'.map V.int ++ [V.int (n : Int)])) a = some (HO.lst (ns'.map V.int ++ [V.int (n : Int)])) := upd_same
    have e010 := Evl.Ex.mut (o := HO.lst (ns'.map V.int ++ [V.int (n : Int)])) e09 na
    generalize upd H9 a (HO.lst (ns'.map V.int ++ [V.int (n : Int)])) = H10 at *
    repeat walk_at "mst"
    refine ⟨a, _, rfl, rfl, s10, ?_⟩
    have b11 : ∀ b o, H10 b = some o → b ≠ a → upd H10 a (HO.lst (ns'.map V.int ++ [V.int (n : Int)]).reverse) b = some o := fun b o h ne => (upd_ne ne).trans h
    have e011 := Evl.Ex.mut (o := HO.lst (ns'.map V.int ++ [V.int (n : Int)]).reverse) e010 na
    generalize upd H10 a (HO.lst (ns'.map V.int ++ [V.int (n : Int)]).reverse) = H11 at *
    repeat walk_at "mst"
    have bb : ∀ b o, H' b = some o → b ≠ a → H11 b = some o := fun b o h ne => b11 _ _ (b10 _ _ (e79 _ _ h) ne) ne
    obtain ⟨w0, w1, w2⟩ := nx H11 bb
    exact ⟨_, _, _, e011, bb _ _ hR ne1, bb _ _ hD ne2, bb _ _ hf' ne3, w0, w1, w2, rfl⟩
  · rintro σ H' ⟨x7, x8, x9, e', hR, hD, hf', u0, u1, u2, rfl⟩
    have S' := S.ex e'
    have hst' := S'.st
    repeat walk_at "mst"
    refine S'.Y.meth (by decide +kernel) (by decide +kernel) (by decide +kernel) (by decide +kernel) (by decide +kernel) ?_
    repeat walk_at "mst"
    refine k_ixL (k_sq S'.hn) hat_n ?_
    repeat walk_at "mst"
    refine use_height S'.Y ⟨by omega, by omega⟩ ?_
    repeat walk_at "mst"
    refine k_ixL (k_sq S'.hh) (hat_at S.hl (by omega) (by omega)) ?_
    rw [heq]
    repeat walk_at "mst"
    rw [decide_eq_true rfl]
    exact q _ e'
theorem use_read {P : Program} {w : World} {K : PySem.W.Frag} {H : Hp} {Q : VK} {E : XK} {Z : Addr → Prop} {A : Adr} {M G : List Pr} {hts hs ns : List Int} {ts : List (Key × V)} {k : Nat} (S : Sd P w K Z H A M G hts hs ns ts) (hk : k < M.length) (few : M.length ≤ 200) (q : ∀ H', Ex H H' → Q (.bl true) H') : sp_law_read P w K ([.ref A.F.y, .ref A.st, .int (k : Int)] ++ []) H Q E := ⟨Z, A, M, G, hts, hs, ns, ts, k, rfl, S, hk, few, q⟩
def sp_law_made (P : Program) (w : World) (K : PySem.W.Frag) : Sp := fun vs H Q _ => ∃ (Z : Addr → Prop) (A : Adr) (M G : List Pr) (hts hs ns : List Int) (ts : List (Key × V)) (d p1 p2 : Addr) (ls rs : List Int), vs = [.ref A.F.y, .ref A.st, .ref d] ∧ Sd P w K Z H A M G hts hs ns ts ∧
  H d = some (.tup [.ref p1, .ref p2]) ∧ H p1 = some (.lst (ls.map V.int)) ∧ H p2 = some (.lst (rs.map V.int)) ∧ ¬ Z p1 ∧ ¬ Z p2 ∧ (∀ x ∈ ls, 0 ≤ x ∧ x < (M.length : Int)) ∧ (∀ x ∈ rs, 0 ≤ x ∧ x < (M.length : Int)) ∧ ls.length ≤ 4 ∧ rs.length ≤ 4 ∧ M.length ≤ 190 ∧
  ∀ (M' G' : List Pr) (hts' hs' ns' : List Int) (H' : Hp), GrA A H H' → Sd P w K Z H' A M' G' hts' hs' ns' ts → Phi G' ts ≤ Phi G ts + 2 → Q (.bl true) H'
abbrev N_law_made : List Str := ["yard", "state", "drawn", "model", "numbers", "at", "number", "k"]
def t_law_made (P : Program) (w : World) (K : PySem.W.Frag) (E : XK) : TS := (tSeq (tAsg (tOp (rIxT K) (tVar 1) (tC (.int 0))) (gName 3)) (tSeq (tAsg (tOp (rIxT K) (tVar 1) (tC (.int 2))) (gName 4)) (tSeq (tAsg (tCall (sp_law_put K) [] E0 (tCons (tVar 3) (tCons (tOp (rIxT K) (tVar 1) (tC (.int 1))) (tCons (tOp (rIxT K) (tVar 2) (tC (.int 0))) (tCons (tOp (rIxT K) (tVar 2) (tC (.int 1))) tNil))))) (gName 5)) (tSeq (tAsg (tMeth (He.ga K "Yard") "game" (sp_Yard_m_game P w K) [] E0 (tVar 0) (tCons (tLc (iList K (tOp (rIxT K) (tVar 2) (tC (.int 0)))) (gName 7) tYes (tOp (rIxL K) (tVar 4) (tVar 7)) [7]) (tCons (tLc (iList K (tOp (rIxT K) (tVar 2) (tC (.int 1)))) (gName 7) tYes (tOp (rIxL K) (tVar 4) (tVar 7)) [7]) tNil))) (gName 6)) (Evl.tCut (tIfS (tTest (tOp rEq (tVar 5) (tCB (rLenQ K) (tCons (tVar 4) tNil)))) (tDrop (tBM K "list" rAppend (tVar 4) (tCons (tVar 6) tNil))) tNext) (tRet (tAndV (tCall (sp_law_is_integer K) [] E0 (tCons (tVar 6) tNil)) (tOp rEq (tVar 6) (tOp (rIxL K) (tVar 4) (tVar 5))))))))))
theorem len_law_made {P : Program} {w : World} {K : PySem.W.Frag} {vs : List V} {H : Hp} {Q : VK} {E : XK} (h : sp_law_made P w K vs H Q E) : vs.length = 3 := by
  obtain ⟨_, _, _, _, _, _, _, _, _, _, _, _, _, rfl, _⟩ := h; rfl
theorem pure_law_made {P : Program} {w : World} {K : PySem.W.Frag} (vs : List V) (H : Hp) (Q : VK) (E : XK) (h : sp_law_made P w K vs H Q E) : t_law_made P w K E { nx := fun _ H' => Q .non H', rt := Q } (start N_law_made vs) H := by
  obtain ⟨Z, A, M, G, hts, hs, ns, ts, d, p1, p2, ls, rs, rfl, S, hd, h1, h2, z1, z2, b1, b2, l1, l2, few, q⟩ := h
  have hst := S.st
  have nsl := S.I.len
  have gl := S.I.len2
  unfold t_law_made
  repeat walk_at "mst"
  refine use_put S.mo S.hh S.hl (S.own _ (Or.inr (Or.inl rfl))) (S.own _ (Or.inr (Or.inr (Or.inl rfl)))) S.al (k_sq h1) (k_sq h2) b1 b2 S.ne.1 (by omega) fun as bs i M' hts' H1 asc1 asc2 fr mo1 hh1 hl1 pm hg => ?_
  have Y1 := S.yard_mo fr
  have g1 : GrA A H H1 := GrA.mo fr
  have tu1 := S.tupA g1
  have hd1 := tu1 _ _ hd
  have own : ∀ c, ¬ Z c → ¬ A.own c := fun c n o => n (S.own c o)
  have h11 := g1 _ _ h1 (own _ z1)
  have h21 := g1 _ _ h2 (own _ z2)
  have hn1 := fr _ _ S.hn S.ne.2.1.symm S.ne.2.2.symm
  have ym := Y1.meth (m := "game") (Z := True) (by decide +kernel) (by decide +kernel) (by decide +kernel) (by decide +kernel) (by decide +kernel) trivial
  repeat walk_at "mst"
  refine Y1.meth (by decide +kernel) (by decide +kernel) (by decide +kernel) (by decide +kernel) (by decide +kernel) ?_
  repeat walk_at "mst"
  refine ⟨p1, rfl, ⟨_, k_sq h11⟩, lcR_list (K := K) (onI (nat_ ns)) (k_sq h11) (by rw [List.length_map]; exact Nat.lt_of_le_of_lt l1 (by decide)) (fun x hx => ?_) fun D1 H2 n1 e2 hD1 => ?_⟩
  · obtain ⟨z, mz, rfl⟩ := List.mem_map.mp hx
    have bz := b1 z mz
    refine turn_map fun H' e R r => ?_
    have hn' := e _ _ hn1
    repeat walk_at "mst"
    exact k_ixL (k_sq hn') (nat_at bz.1 bz.2 nsl) r
  rw [onI_map] at hD1
  have hd2 := e2 _ _ hd1
  have h22 := e2 _ _ h21
  have hn2 := e2 _ _ hn1
  repeat walk_at "mst"
  refine ⟨p2, rfl, ⟨_, k_sq h22⟩, lcR_list (K := K) (onI (nat_ ns)) (k_sq h22) (by rw [List.length_map]; exact Nat.lt_of_le_of_lt l2 (by decide)) (fun x hx => ?_) fun D2 H3 n2 e3 hD2 => ?_⟩
  · obtain ⟨z, mz, rfl⟩ := List.mem_map.mp hx
    have bz := b2 z mz
    refine turn_map fun H' e R r => ?_
    have hn' := e _ _ hn2
    repeat walk_at "mst"
    exact k_ixL (k_sq hn') (nat_at bz.1 bz.2 nsl) r
  rw [onI_map] at hD2
  have e13 := e2.trans e3
  have hn3 := e3 _ _ hn2
  have Y3 := Y1.ex e13
  have bn : ∀ {l : List Int}, (∀ x ∈ l, 0 ≤ x ∧ x < (M.length : Int)) → ∀ x ∈ l.map (nat_ ns), 0 ≤ x ∧ x < (G.length : Int) := fun b x m => by
    obtain ⟨j, mj, rfl⟩ := List.mem_map.mp m
    exact S.I.rng _ (List.mem_of_getElem? (nat_get (b j mj).1 (b j mj).2 nsl))
  repeat walk_at "mst"
  refine use_game Y3 (k_sq (e3 _ _ hD1)) (k_sq hD2) (bn b1) (bn b2) ⟨by rw [List.length_map]; omega, by rw [List.length_map]; omega⟩ (by omega) fun as' bs' n G' hs' H4 asc3 asc4 g4 Y4 pg hh4 => ?_
  have ta : Told ns as as' := told_of asc1 asc3
  have tb : Told ns bs bs' := told_of asc2 asc4
  have ap : Asc M.length as ∧ Asc M.length bs := ⟨asc1.asc b1, asc2.asc b2⟩
  have on : Off A.F A.np := S.off.2.2
  have hn4 := g4 _ _ hn3 on
  have zo : ∀ c, ¬ Off A.F c → Z c := fun c h => S.own c (Or.inl h)
  have mo4 : ModAt Z H4 A.m M' := mod_gr Y3 (mo1.up e13) g4 S.off.1 zo
  have hh4' := g4 _ _ (e13 _ _ hh1) S.off.2.1
  have g14 : GrA A H H4 := g1.trans ((GrA.of e13).trans (GrA.gr g4))
  have tu4 := S.tupA g14
  have ph := phi_put (ts := ts) pg
  have FM' := S.FM.put pm ap.1 ap.2
  have O' := sd_put hg pm S.O S.hl S.FM ap.1 ap.2
  have T' : TOk G' ts := S.T.goes (by
    rcases pg with ⟨_, _, _, rfl⟩ | ⟨_, _, rfl⟩
    · exact fun _ _ h => h
    · exact fun i g h => by rw [List.getElem?_append_left (List.getElem?_eq_some_iff.mp h).1]; exact h)
  have L' := S.L.put pg
  have f' := S.four.put pm (Nat.le_trans (asc_le asc1.1 asc1.2) l1) (Nat.le_trans (asc_le asc2.1 asc2.2) l2)
  have al : ∀ H5 : Hp, GrA A H H5 → YardAt P w K H5 A.F G' hs' ts → H5 A.m ≠ none → H5 A.hp ≠ none → H5 A.np ≠ none → ∀ c, Z c → H5 c ≠ none := fun H5 g Y a b c => g.al (fun x o => by
    rcases o with o | rfl | rfl | rfl
    · exact Y.own_al o
    · exact a
    · exact b
    · exact c) S.al
  have sne : ∀ {H5 : Hp} {x : Addr} {o : HO}, H5 x = some o → H5 x ≠ none := fun h z => by rw [h] at z; cases z
  rcases S.I.put S.FM ap ta tb pm pg with ⟨k, rfl, kl, rfl, rfl, en⟩ | ⟨rfl, rfl, rfl, rfl, I'⟩
  · have S' : Sd P w K Z H4 A M' G' hts' hs' ns ts := ⟨Y4, T', L', tu4 _ _ hst, mo4, hh4', hl1, hn4, S.I, FM', O', f', S.off, S.ne, S.own, al _ g14 Y4 (by obtain ⟨xs, hm, _⟩ := mo4; exact sne hm) (sne hh4') (sne hn4)⟩
    refine k_cut (fun σ' H' => H' = H4 ∧ σ' = [some (.ref A.F.y), some (.ref A.st), some (.ref d), some (.ref A.m), some (.ref A.np), some (.int (k : Int)), some (.int n), none]) ?_ ?_
    · repeat walk_at "mst"
      refine k_iteD (fun h => ?_) (fun h => ?_)
      · rw [List.length_map] at h; omega
      · repeat walk_at "mst"
        exact ⟨rfl, rfl⟩
    rintro σ' H' ⟨rfl, rfl⟩
    repeat walk_at "mst"
    refine k_ixL (k_sq hn4) (nat_at (by omega) (by omega) nsl) ?_
    rw [en]
    repeat walk_at "mst"
    rw [decide_eq_true rfl]
    exact q _ _ _ _ _ _ g14 S' ph
  · refine k_cut (fun σ' H' => H' = upd H4 A.np (.lst (ns.map V.int ++ [V.int (ns.length : Int)])) ∧ σ' = [some (.ref A.F.y), some (.ref A.st), some (.ref d), some (.ref A.m), some (.ref A.np), some (.int (ns.length : Int)), some (.int (ns.length : Int)), none]) ?_ ?_
    · repeat walk_at "mst"
      refine k_iteD (fun h => ?_) (fun h => absurd (by rw [List.length_map]) h)
      repeat walk_at "mst"
      · exact k_sizeL (by omega)
      · exact ⟨rfl, rfl⟩
    rintro σ' H' ⟨rfl, rfl⟩
    have b5 : ∀ c o, H4 c = some o → c ≠ A.np → upd H4 A.np (.lst (ns.map V.int ++ [V.int (ns.length : Int)])) c = some o := fun c o h n => (upd_ne n).trans h
    have s5 : upd H4 A.np (.lst (ns.map V.int ++ [V.int (ns.length : Int)])) A.np = some (.lst ((ns ++ [(ns.length : Int)]).map V.int)) := by rw [upd_same, List.map_append]; rfl
    generalize upd H4 A.np (.lst (ns.map V.int ++ [V.int (ns.length : Int)])) = H5 at *
    have g5 : GrA A H H5 := g14.trans fun c o h n => b5 c o h fun e => n (Or.inr (Or.inr (Or.inr e)))
    have Y5 : YardAt P w K H5 A.F (G ++ [(as', bs')]) hs' ts := Y4.but hn4 on b5
    have tu5 := S.tupA g5
    have mo5 : ModAt Z H5 A.m (M ++ [(as, bs)]) := by
      obtain ⟨xs, hm, fs⟩ := mo4
      exact ⟨xs, b5 _ _ hm S.ne.2.1, fs.keep (fun c o z h => b5 _ _ z fun e => h (e ▸ S.own _ (Or.inr (Or.inr (Or.inr rfl))))) fun c ys z => b5 _ _ z (ne_of z hn4 (by intro y; cases y))⟩
    have hh5 := b5 _ _ hh4' S.ne.2.2
    have S' : Sd P w K Z H5 A (M ++ [(as, bs)]) (G ++ [(as', bs')]) hts' hs' (ns ++ [(ns.length : Int)]) ts := ⟨Y5, T', L', tu5 _ _ hst, mo5, hh5, hl1, s5, I', FM', O', f', S.off, S.ne, S.own, al _ g5 Y5 (by obtain ⟨xs, hm, _⟩ := mo5; exact sne hm) (sne hh5) (sne s5)⟩
    repeat walk_at "mst"
    refine k_ixL (k_sq s5) (nat_at (M := M ++ [(as, bs)]) (by omega) (by rw [List.length_append, List.length_singleton]; omega) I'.len) ?_
    have en : nat_ (ns ++ [(ns.length : Int)]) (ns.length : Int) = ns.length := by
      unfold nat_
      rw [Int.toNat_natCast, List.getD_eq_getElem?_getD, List.getElem?_append_right (Nat.le_refl _), Nat.sub_self]; rfl
    rw [en]
    repeat walk_at "mst"
    rw [decide_eq_true rfl]
    exact q _ _ _ _ _ _ g5 S' ph
theorem use_made {P : Program} {w : World} {K : PySem.W.Frag} {H : Hp} {Q : VK} {E : XK} {Z : Addr → Prop} {A : Adr} {M G : List Pr} {hts hs ns : List Int} {ts : List (Key × V)} {d p1 p2 : Addr} {ls rs : List Int} (S : Sd P w K Z H A M G hts hs ns ts) (hd : H d = some (.tup [.ref p1, .ref p2])) (h1 : H p1 = some (.lst (ls.map V.int))) (h2 : H p2 = some (.lst (rs.map V.int))) (z1 : ¬ Z p1) (z2 : ¬ Z p2)
    (b1 : ∀ x ∈ ls, 0 ≤ x ∧ x < (M.length : Int)) (b2 : ∀ x ∈ rs, 0 ≤ x ∧ x < (M.length : Int)) (l1 : ls.length ≤ 4) (l2 : rs.length ≤ 4) (few : M.length ≤ 190)
    (q : ∀ (M' G' : List Pr) (hts' hs' ns' : List Int) (H' : Hp), GrA A H H' → Sd P w K Z H' A M' G' hts' hs' ns' ts → Phi G' ts ≤ Phi G ts + 2 → Q (.bl true) H') : sp_law_made P w K ([.ref A.F.y, .ref A.st, .ref d] ++ []) H Q E := ⟨Z, A, M, G, hts, hs, ns, ts, d, p1, p2, ls, rs, rfl, S, hd, h1, h2, z1, z2, b1, b2, l1, l2, few, q⟩
def sp_law_drawn (K : PySem.W.Frag) : Sp := fun vs H Q _ => ∃ (Z : Addr → Prop) (m hp dp : Addr) (G : List Pr) (hts ds : List Int) (most : Int), vs = [.ref m, .ref hp, .ref dp, .int most] ∧ ModAt Z H m G ∧ H hp = some (.lst (hts.map V.int)) ∧ hts.length = G.length ∧ hat hts 0 = 0 ∧ 0 < most ∧
  SqL K H dp (ds.map V.int) ∧ 12 ≤ ds.length ∧ (∀ d ∈ ds, 0 ≤ d ∧ d < 60) ∧ Forms G ∧ G.length ≤ 1000 ∧ (∀ c, Z c → H c ≠ none) ∧ Four G ∧
  ∀ (t p1 p2 : Addr) (ls rs : List Int) (H' : Hp), Ex H H' → H' t = some (.tup [.ref p1, .ref p2]) → H' p1 = some (.lst (ls.map V.int)) → H' p2 = some (.lst (rs.map V.int)) → ¬ Z p1 → ¬ Z p2 → (∀ x ∈ ls, 0 ≤ x ∧ x < (G.length : Int)) → (∀ x ∈ rs, 0 ≤ x ∧ x < (G.length : Int)) → ls.length ≤ 4 → rs.length ≤ 4 → Q (.ref t) H'
abbrev N_law_drawn : List Str := ["model", "heights", "digits", "most", "pool", "k", "lefts", "rights", "base"]
def t_law_drawn (K : PySem.W.Frag) (E : XK) : TS := (tSeq (tAsg (tLc (iRng1 (tCons (tCB (rLenQ K) (tCons (tVar 0) tNil)) tNil)) (gName 5) (tTest (tOp rLtI (tOp (rIxL K) (tVar 1) (tVar 5)) (tVar 3))) (tVar 5) [5]) (gName 4)) (Evl.tCut (tIfS (tTest (tOp rEq (tOp rModI (tCB rIntI (tCons (tOp (rIxL K) (tVar 2) (tC (.int 10))) tNil)) (tC (.int 3))) (tC (.int 1)))) (tAsg (tSl (rSlL K) (tVar 4) (tPart (tUn rNegI (tC (.int 3)))) tNoPart) (gName 4)) tNext) (tSeq (tAsg (tLc (iRng1 (tCons (tOp rModI (tCB rIntI (tCons (tOp (rIxL K) (tVar 2) (tC (.int 0))) tNil)) (tC (.int 5))) tNil)) (gName 5) tYes (tOp (rIxL K) (tVar 4) (tOp rModI (tCB rIntI (tCons (tOp (rIxL K) (tVar 2) (tOp rAddI (tC (.int 1)) (tVar 5))) tNil)) (tCB (rLenQ K) (tCons (tVar 4) tNil)))) [5]) (gName 6)) (tSeq (tAsg (tLc (iRng1 (tCons (tOp rModI (tCB rIntI (tCons (tOp (rIxL K) (tVar 2) (tC (.int 5))) tNil)) (tC (.int 5))) tNil)) (gName 5) tYes (tOp (rIxL K) (tVar 4) (tOp rModI (tCB rIntI (tCons (tOp (rIxL K) (tVar 2) (tOp rAddI (tC (.int 6)) (tVar 5))) tNil)) (tCB (rLenQ K) (tCons (tVar 4) tNil)))) [5]) (gName 7)) (tSeq (tAsg (tOp (rIxL K) (tVar 0) (tOp rModI (tCB rIntI (tCons (tOp (rIxL K) (tVar 2) (tC (.int 11))) tNil)) (tCB (rLenQ K) (tCons (tVar 0) tNil)))) (gName 8)) (tSeq (tIfS (tTest (tOp rEq (tOp rModI (tOp rDivI (tOp (rIxL K) (tVar 2) (tC (.int 10))) (tC (.int 3))) (tC (.int 4))) (tC (.int 1)))) (tRet (tTup (tCons (tSl (rSlL K) (tOp rCat (tOp (rIxT K) (tVar 8) (tC (.int 0))) (tSl (rSlL K) (tVar 6) tNoPart (tPart (tC (.int 1))))) (tPart (tUn rNegI (tC (.int 4)))) tNoPart) (tCons (tOp (rIxT K) (tVar 8) (tC (.int 1))) tNil)))) tNext) (tSeq (tIfS (tTest (tOp rEq (tOp rModI (tOp rDivI (tOp (rIxL K) (tVar 2) (tC (.int 10))) (tC (.int 3))) (tC (.int 4))) (tC (.int 2)))) (tRet (tTup (tCons (tOp (rIxT K) (tVar 8) (tC (.int 0))) (tCons (tSl (rSlL K) (tOp rCat (tOp (rIxT K) (tVar 8) (tC (.int 1))) (tSl (rSlL K) (tVar 7) tNoPart (tPart (tC (.int 1))))) (tPart (tUn rNegI (tC (.int 4)))) tNoPart) tNil)))) tNext) (tRet (tTup (tCons (tVar 6) (tCons (tVar 7) tNil)))))))))))
theorem len_law_drawn {K : PySem.W.Frag} {vs : List V} {H : Hp} {Q : VK} {E : XK} (h : sp_law_drawn K vs H Q E) : vs.length = 4 := by
  obtain ⟨_, _, _, _, _, _, _, _, rfl, _⟩ := h; rfl
theorem cut_four (ls : List Int) : ∃ l' : List Int, cutV (ls.map V.int) (some (-4)) none = l'.map V.int ∧ (∀ x ∈ l', x ∈ ls) ∧ l'.length ≤ 4 := by
  refine ⟨(ls.drop _).take _, by unfold cutV; rw [List.map_take, List.map_drop], fun x m => List.mem_of_mem_drop (List.mem_of_mem_take m), ?_⟩
  rw [List.length_take, List.length_drop, List.length_map, HT.sIx_none]
  have s : HT.sIx ls.length 0 (some (-4)) = (-4 + (ls.length : Int)).toNat := by
    show (if (-4 : Int) < 0 then (-4 + (ls.length : Int)).toNat else min (-4 : Int).toNat ls.length) = _
    rw [if_pos (by decide)]
  rw [s]
  omega
theorem range_mem {n : Nat} {f : Nat → Int} {ps : List Int} (h : ∀ i, i < n → f i ∈ ps) : ∀ x ∈ (List.range n).map f, x ∈ ps := by
  intro x m
  obtain ⟨i, hi, rfl⟩ := List.mem_map.mp m
  exact h i (List.mem_range.mp hi)
theorem pick_mem {ps : List Int} (ne : ps ≠ []) (d : Int) : ps.getD (d % (ps.length : Int)).toNat 0 ∈ ps ∧ atI (ps.map V.int) (d % (ps.length : Int)) = some (V.int (ps.getD (d % (ps.length : Int)).toNat 0)) := by
  have hl : 0 < ps.length := List.length_pos_iff.mpr ne
  obtain ⟨z, m, e, f⟩ := atI_in (ls := ps) (k := d % (ps.length : Int)) (Int.emod_nonneg _ (by omega)) (Int.emod_lt_of_pos _ (by omega))
  rw [← f]
  exact ⟨m, e⟩
theorem pure_law_drawn {K : PySem.W.Frag} (vs : List V) (H : Hp) (Q : VK) (E : XK) (h : sp_law_drawn K vs H Q E) : t_law_drawn K E { nx := fun _ H' => Q .non H', rt := Q } (start N_law_drawn vs) H := by
  obtain ⟨Z, m, hp, dp, G, hts, ds, most, rfl, M, hh, hlen, h00, m0, hd, dl, db, FG, big, alive, four, q⟩ := h
  obtain ⟨xs, hm, fs⟩ := M
  have xl : xs.length = G.length := fs.1
  have g0 : 0 < G.length := (List.getElem?_eq_some_iff.mp FG.zero).1
  have small : G.length < sizeLine := Nat.lt_of_le_of_lt big (by decide)
  unfold t_law_drawn
  repeat walk_at "mst"
  refine ⟨_, rfl, by omega, by omega, ?_⟩
  rw [Int.toNat_natCast, xl]
  refine lcR_rng (fun i => if decide (hat hts (i : Int) < most) = true then some (V.int i) else none) small (fun i hi => ?_) fun D1 H1 nD1 e1 hD1 => ?_
  · refine turn_flt fun H' e R r => ?_
    have hh' := e _ _ hh
    repeat walk_at "mst"
    refine k_ixL (k_sq hh') (hat_at hlen (by omega) (by omega)) ?_
    repeat walk_at "mst"
    exact r
  rw [kept_map] at hD1
  have nz0 : kept G.length (fun i => decide (hat hts (i : Int) < most)) ≠ [] := by
    have : (0 : Int) ∈ kept G.length (fun i => decide (hat hts (i : Int) < most)) := mem_kept.mpr ⟨0, rfl, g0, decide_eq_true (by show hat hts 0 < most; rw [h00]; exact m0)⟩
    intro z; rw [z] at this; cases this
  have bd0 : ∀ x ∈ kept G.length (fun i => decide (hat hts (i : Int) < most)), 0 ≤ x ∧ x < (G.length : Int) := (kept_asc _ _).2
  generalize kept G.length (fun i => decide (hat hts (i : Int) < most)) = ps0 at *
  have hd1 := Evl.ex_l e1 hd
  repeat walk_at "mst"
  refine k_cut (fun σ' H' => ∃ (pp : Addr) (ps : List Int), Ex H H' ∧ H' pp = some (.lst (ps.map V.int)) ∧ ps ≠ [] ∧ (∀ x ∈ ps, 0 ≤ x ∧ x < (G.length : Int)) ∧ σ' = [some (.ref m), some (.ref hp), some (.ref dp), some (.int most), some (.ref pp), none, none, none, none]) ?_ ?_
  · obtain ⟨d10, a10, b10, _⟩ := dg_of db (k := 10) (by omega) (by omega)
    repeat walk_at "mst"
    refine k_ixL hd1 a10 ?_
    repeat walk_at "mst"
    refine k_iteD (fun _ => ?_) (fun _ => ?_)
    · repeat walk_at "mst"
      obtain ⟨l', el, ml, nl⟩ := cut_last nz0
      refine k_slL (k_sq hD1) fun p np => ?_
      rw [el]
      have e2 := Evl.Ex.new (o := HO.lst (l'.map V.int)) np
      have s2 : upd H1 p (HO.lst (l'.map V.int)) p = some (HO.lst (l'.map V.int)) := upd_same
      repeat walk_at "mst"
      exact ⟨p, l', e1.trans e2, s2, nl, fun x mx => bd0 x (ml x mx), rfl⟩
    · repeat walk_at "mst"
      exact ⟨D1, ps0, e1, hD1, nz0, bd0, rfl⟩
  rintro σ' H2 ⟨pp, ps, e2, hpp, ne, bd, rfl⟩
  have hd2 := Evl.ex_l e2 hd
  obtain ⟨d0, a0, b0, _⟩ := dg_of db (k := 0) (by omega) (by omega)
  obtain ⟨d5, a5, b5, _⟩ := dg_of db (k := 5) (by omega) (by omega)
  obtain ⟨d11, a11, b11, _⟩ := dg_of db (k := 11) (by omega) (by omega)
  obtain ⟨d10, a10, b10, _⟩ := dg_of db (k := 10) (by omega) (by omega)
  have pl : 0 < ps.length := List.length_pos_iff.mpr ne
  repeat walk_at "mst"
  refine k_ixL hd2 a0 ?_
  repeat walk_at "mst"
  refine ⟨_, rfl, by omega, by omega, lcR_rng (n := (d0 % 5).toNat) (fun i => some (V.int (ps.getD (ds.getD (1 + (i : Int)).toNat 0 % (ps.length : Int)).toNat 0))) (Nat.lt_of_le_of_lt (show _ ≤ 10 by omega) (by decide)) (fun i hi => ?_) fun D3 H3 nD3 e3 hD3 => ?_⟩
  · refine turn_map fun H' e R r => ?_
    have hd' := Evl.ex_l e hd2
    have hpp' := e _ _ hpp
    obtain ⟨z, az, bz, ez⟩ := dg_of db (k := 1 + (i : Int)) (by omega) (by omega)
    obtain ⟨_, pick⟩ := pick_mem ne z
    rw [← ez] at r
    repeat walk_at "mst"
    refine k_ixL hd' az ?_
    repeat walk_at "mst"
    rw [List.length_map]
    repeat walk_at "mst"
    exact k_ixL (k_sq hpp') pick r
  rw [rng_map] at hD3
  have ml : ∀ x ∈ (List.range (d0 % 5).toNat).map (fun i : Nat => ps.getD (ds.getD (1 + (i : Int)).toNat 0 % (ps.length : Int)).toNat 0), 0 ≤ x ∧ x < (G.length : Int) := fun x mx => bd x (range_mem (fun i _ => (pick_mem ne _).1) x mx)
  have ll : ((List.range (d0 % 5).toNat).map (fun i : Nat => ps.getD (ds.getD (1 + (i : Int)).toNat 0 % (ps.length : Int)).toNat 0)).length ≤ 4 := by rw [List.length_map, List.length_range]; omega
  generalize (List.range (d0 % 5).toNat).map (fun i : Nat => ps.getD (ds.getD (1 + (i : Int)).toNat 0 % (ps.length : Int)).toNat 0) = ls at *
  have hd3 := Evl.ex_l e3 hd2
  have hpp3 := e3 _ _ hpp
  repeat walk_at "mst"
  refine k_ixL hd3 a5 ?_
  repeat walk_at "mst"
  refine ⟨_, rfl, by omega, by omega, lcR_rng (n := (d5 % 5).toNat) (fun i => some (V.int (ps.getD (ds.getD (6 + (i : Int)).toNat 0 % (ps.length : Int)).toNat 0))) (Nat.lt_of_le_of_lt (show _ ≤ 10 by omega) (by decide)) (fun i hi => ?_) fun D4 H4 nD4 e4 hD4 => ?_⟩
  · refine turn_map fun H' e R r => ?_
    have hd' := Evl.ex_l e hd3
    have hpp' := e _ _ hpp3
    obtain ⟨z, az, bz, ez⟩ := dg_of db (k := 6 + (i : Int)) (by omega) (by omega)
    obtain ⟨_, pick⟩ := pick_mem ne z
    rw [← ez] at r
    repeat walk_at "mst"
    refine k_ixL hd' az ?_
    repeat walk_at "mst"
    rw [List.length_map]
    repeat walk_at "mst"
    exact k_ixL (k_sq hpp') pick r
  rw [rng_map] at hD4
  have mr : ∀ x ∈ (List.range (d5 % 5).toNat).map (fun i : Nat => ps.getD (ds.getD (6 + (i : Int)).toNat 0 % (ps.length : Int)).toNat 0), 0 ≤ x ∧ x < (G.length : Int) := fun x mx => bd x (range_mem (fun i _ => (pick_mem ne _).1) x mx)
  have lr : ((List.range (d5 % 5).toNat).map (fun i : Nat => ps.getD (ds.getD (6 + (i : Int)).toNat 0 % (ps.length : Int)).toNat 0)).length ≤ 4 := by rw [List.length_map, List.length_range]; omega
  generalize (List.range (d5 % 5).toNat).map (fun i : Nat => ps.getD (ds.getD (6 + (i : Int)).toNat 0 % (ps.length : Int)).toNat 0) = rs at *
  have hd4 := Evl.ex_l e4 hd3
  have e24 := e3.trans e4
  have e04 := e2.trans e24
  have hm4 := e04 _ _ hm
  have fs4 := fs.ex e04
  have hD34 := e4 _ _ hD3
  have fr : ∀ c H', Ex H H' → H' c = none → ¬ Z c := fun c H' e n z => by
    cases y : H c with
    | none => exact alive c z y
    | some o => rw [e _ _ y] at n; cases n
  have zD3 : ¬ Z D3 := fr D3 H2 e2 nD3
  have zD4 : ¬ Z D4 := fr D4 H3 (e2.trans e3) nD4
  repeat walk_at "mst"
  refine k_ixL hd4 a11 ?_
  repeat walk_at "mst"
  have hj : (d11 % (xs.length : Int)).toNat < G.length := by
    have h1 := Int.emod_nonneg d11 (show (xs.length : Int) ≠ 0 by omega)
    have h2 := Int.emod_lt_of_pos d11 (show (0 : Int) < (xs.length : Int) by omega)
    omega
  have ej : d11 % (xs.length : Int) = (((d11 % (xs.length : Int)).toNat : Nat) : Int) := by
    have h1 := Int.emod_nonneg d11 (show (xs.length : Int) ≠ 0 by omega)
    omega
  obtain ⟨ba, hba, fb⟩ := fs4.2 _ G[(d11 % (xs.length : Int)).toNat] (List.getElem?_eq_getElem hj)
  have as := FG.asc _ _ (List.getElem?_eq_getElem hj)
  have f4 := four _ (List.getElem_mem hj)
  generalize G[(d11 % (xs.length : Int)).toNat] = g at *
  refine k_ixL (k_sq hm4) (by rw [ej]; exact atI_nat hba) ?_
  obtain ⟨c, d, hb, hc, hdd, zc, zd⟩ := fb
  have as1 := as.1.up (Nat.le_of_lt hj)
  have as2 := as.2.up (Nat.le_of_lt hj)
  have l1 := as1.len
  have l2 := as2.len
  repeat walk_at "mst"
  refine k_ixL hd4 a10 ?_
  repeat walk_at "mst"
  refine k_iteD (fun _ => ?_) (fun _ => ?_)
  · repeat walk_at "mst"
    obtain ⟨l', el, mm, nn⟩ := cut_ints ls none (some 1)
    refine k_slL (k_sq hD34) fun p np => ?_
    rw [el]
    have e5 := Evl.Ex.new (o := HO.lst (l'.map V.int)) np
    have s5 : upd H4 p (HO.lst (l'.map V.int)) p = some (HO.lst (l'.map V.int)) := upd_same
    generalize upd H4 p (HO.lst (l'.map V.int)) = H5 at *
    repeat walk_at "mst"
    refine k_rCat (e5 _ _ hc) s5 (by rw [List.length_map, List.length_map]; exact Nat.le_trans (show _ ≤ 2000 by omega) (by decide)) fun u nu => ?_
    rw [← List.map_append]
    have e6 := Evl.Ex.new (o := HO.lst ((g.1 ++ l').map V.int)) nu
    have s6 : upd H5 u (HO.lst ((g.1 ++ l').map V.int)) u = some (HO.lst ((g.1 ++ l').map V.int)) := upd_same
    generalize upd H5 u (HO.lst ((g.1 ++ l').map V.int)) = H6 at *
    repeat walk_at "mst"
    obtain ⟨l2', el2, mm2, nn2⟩ := cut_four (g.1 ++ l')
    refine k_slL (k_sq s6) fun v nv => ?_
    rw [el2]
    have e7 := Evl.Ex.new (o := HO.lst (l2'.map V.int)) nv
    have s7 : upd H6 v (HO.lst (l2'.map V.int)) v = some (HO.lst (l2'.map V.int)) := upd_same
    generalize upd H6 v (HO.lst (l2'.map V.int)) = H7 at *
    have e47 := e5.trans (e6.trans e7)
    have hb7 := e47 _ _ hb
    repeat walk_at "mst"
    refine ⟨by show 2 ≤ sizeLine; decide, fun t nt => ?_⟩
    have e8 := Evl.Ex.new (o := HO.tup [V.ref v, V.ref d]) nt
    have s8 : upd H7 t (HO.tup [V.ref v, V.ref d]) t = some (HO.tup [V.ref v, V.ref d]) := upd_same
    generalize upd H7 t (HO.tup [V.ref v, V.ref d]) = H8 at *
    refine q t v d l2' g.2 H8 (e04.trans (e47.trans e8)) s8 (e8 _ _ s7) (e8 _ _ (e47 _ _ hdd)) (fr v H6 (e04.trans (e5.trans e6)) nv) zd (fun x mx => ?_) as2.2 nn2 (by omega)
    rcases List.mem_append.mp (mm2 x mx) with h | h
    · exact as1.2 x h
    · exact ml x (mm x h)
  · repeat walk_at "mst"
    refine k_ixL hd4 a10 ?_
    repeat walk_at "mst"
    refine k_iteD (fun _ => ?_) (fun _ => ?_)
    · repeat walk_at "mst"
      obtain ⟨l', el, mm, nn⟩ := cut_ints rs none (some 1)
      refine k_slL (k_sq hD4) fun p np => ?_
      rw [el]
      have e5 := Evl.Ex.new (o := HO.lst (l'.map V.int)) np
      have s5 : upd H4 p (HO.lst (l'.map V.int)) p = some (HO.lst (l'.map V.int)) := upd_same
      generalize upd H4 p (HO.lst (l'.map V.int)) = H5 at *
      repeat walk_at "mst"
      refine k_rCat (e5 _ _ hdd) s5 (by rw [List.length_map, List.length_map]; exact Nat.le_trans (show _ ≤ 2000 by omega) (by decide)) fun u nu => ?_
      rw [← List.map_append]
      have e6 := Evl.Ex.new (o := HO.lst ((g.2 ++ l').map V.int)) nu
      have s6 : upd H5 u (HO.lst ((g.2 ++ l').map V.int)) u = some (HO.lst ((g.2 ++ l').map V.int)) := upd_same
      generalize upd H5 u (HO.lst ((g.2 ++ l').map V.int)) = H6 at *
      repeat walk_at "mst"
      obtain ⟨l2', el2, mm2, nn2⟩ := cut_four (g.2 ++ l')
      refine k_slL (k_sq s6) fun v nv => ?_
      rw [el2]
      have e7 := Evl.Ex.new (o := HO.lst (l2'.map V.int)) nv
      have s7 : upd H6 v (HO.lst (l2'.map V.int)) v = some (HO.lst (l2'.map V.int)) := upd_same
      generalize upd H6 v (HO.lst (l2'.map V.int)) = H7 at *
      have e47 := e5.trans (e6.trans e7)
      repeat walk_at "mst"
      refine ⟨by show 2 ≤ sizeLine; decide, fun t nt => ?_⟩
      have e8 := Evl.Ex.new (o := HO.tup [V.ref c, V.ref v]) nt
      have s8 : upd H7 t (HO.tup [V.ref c, V.ref v]) t = some (HO.tup [V.ref c, V.ref v]) := upd_same
      generalize upd H7 t (HO.tup [V.ref c, V.ref v]) = H8 at *
      refine q t c v g.1 l2' H8 (e04.trans (e47.trans e8)) s8 (e8 _ _ (e47 _ _ hc)) (e8 _ _ s7) zc (fr v H6 (e04.trans (e5.trans e6)) nv) as1.2 (fun x mx => ?_) (by omega) nn2
      rcases List.mem_append.mp (mm2 x mx) with h | h
      · exact as2.2 x h
      · exact mr x (mm x h)
    · repeat walk_at "mst"
      refine ⟨by show 2 ≤ sizeLine; decide, fun t nt => ?_⟩
      have e8 := Evl.Ex.new (o := HO.tup [V.ref D3, V.ref D4]) nt
      have s8 : upd H4 t (HO.tup [V.ref D3, V.ref D4]) t = some (HO.tup [V.ref D3, V.ref D4]) := upd_same
      generalize upd H4 t (HO.tup [V.ref D3, V.ref D4]) = H8 at *
      exact q t D3 D4 ls rs H8 (e04.trans e8) s8 (e8 _ _ hD34) (e8 _ _ hD4) zD3 zD4 ml mr (by omega) (by omega)
theorem use_drawn {K : PySem.W.Frag} {H : Hp} {Q : VK} {E : XK} {Z : Addr → Prop} {m hp dp : Addr} {G : List Pr} {hts ds : List Int} {most : Int} (M : ModAt Z H m G) (hh : H hp = some (.lst (hts.map V.int))) (hl : hts.length = G.length) (h0 : hat hts 0 = 0) (m0 : 0 < most)
    (hd : SqL K H dp (ds.map V.int)) (dl : 12 ≤ ds.length) (db : ∀ d ∈ ds, 0 ≤ d ∧ d < 60) (F : Forms G) (big : G.length ≤ 1000) (alive : ∀ c, Z c → H c ≠ none) (four : Four G)
    (q : ∀ (t p1 p2 : Addr) (ls rs : List Int) (H' : Hp), Ex H H' → H' t = some (.tup [.ref p1, .ref p2]) → H' p1 = some (.lst (ls.map V.int)) → H' p2 = some (.lst (rs.map V.int)) → ¬ Z p1 → ¬ Z p2 → (∀ x ∈ ls, 0 ≤ x ∧ x < (G.length : Int)) → (∀ x ∈ rs, 0 ≤ x ∧ x < (G.length : Int)) → ls.length ≤ 4 → rs.length ≤ 4 → Q (.ref t) H') :
    sp_law_drawn K ([.ref m, .ref hp, .ref dp, .int most] ++ []) H Q E := ⟨Z, m, hp, dp, G, hts, ds, most, rfl, M, hh, hl, h0, m0, hd, dl, db, F, big, alive, four, q⟩
def sp_law_deed (P : Program) (w : World) (K : PySem.W.Frag) : Sp := fun vs H Q _ => ∃ (Z : Addr → Prop) (A : Adr) (M G : List Pr) (hts hs ns : List Int) (ts : List (Key × V)) (dp : Addr) (ds : List Int) (cell : Int), vs = [.ref A.F.y, .ref A.st, .ref dp, .int cell] ∧ Sd P w K Z H A M G hts hs ns ts ∧ SqL K H dp (ds.map V.int) ∧ 13 ≤ ds.length ∧ (∀ d ∈ ds, 0 ≤ d ∧ d < 60) ∧ Phi G ts ≤ 180 ∧
  ∀ (M' G' : List Pr) (hts' hs' ns' : List Int) (ts' : List (Key × V)) (H' : Hp), GrA A H H' → Sd P w K Z H' A M' G' hts' hs' ns' ts' → Phi G' ts' ≤ Phi G ts + 2 → Q (.bl true) H'
abbrev N_law_deed : List Str := ["yard", "state", "digits", "cell", "model", "at", "kind", "far", "word", "bad"]
def t_law_deed (P : Program) (w : World) (K : PySem.W.Frag) (E : XK) : TS := (tSeq (tAsg (tOp (rIxT K) (tVar 1) (tC (.int 0))) (gName 4)) (tSeq (tAsg (tOp rModI (tCB rIntI (tCons (tOp (rIxL K) (tVar 2) (tC (.int 11))) tNil)) (tCB (rLenQ K) (tCons (tVar 4) tNil))) (gName 5)) (tSeq (tAsg (tOp rModI (tCB rIntI (tCons (tOp (rIxL K) (tVar 2) (tC (.int 12))) tNil)) (tC (.int 8))) (gName 6)) (tSeq (tIfS (tTest (tOp rEq (tVar 6) (tC (.int 4)))) (tRet (tCall (sp_law_turn P w K) [] E0 (tCons (tVar 0) (tCons (tVar 1) (tCons (tVar 5) tNil))))) tNext) (tSeq (tIfS (tTest (tOp rEq (tVar 6) (tC (.int 5)))) (tSeq (tAsg (tOp rModI (tCB rIntI (tCons (tVar 3) tNil)) (tOp rPowI (tC (.int 10)) (tC (.int 30)))) (gName 7)) (tSeq (tFor (iRng1 (tCons (tC (.int 10)) tNil)) (gName 8) (tFor (iList K (tLst (tCons (tUn rNegI (tC (.int 1))) (tCons (tCB (rLenQ K) (tCons (tVar 4) tNil)) (tCons (tOp rAddI (tCB (rLenQ K) (tCons (tVar 4) tNil)) (tVar 7)) (tCons (tOp rSubI (tUn rNegI (tC (.int 1))) (tVar 7)) tNil)))))) (gName 9) (tIfS (tNot (tB (tCall (sp_law_refused P w K) [] E0 (tCons (tVar 0) (tCons (tVar 8) (tCons (tOp (rIxL K) (tOp (rIxT K) (tVar 1) (tC (.int 2))) (tVar 5)) (tCons (tVar 9) tNil))))))) (tRet (tC (.bl false))) tNext))) (tRet (tC (.bl true))))) tNext) (tSeq (tIfS (tTest (tOp rEq (tVar 6) (tC (.int 6)))) (tRet (tAndV (tCall (sp_law_read P w K) [] E0 (tCons (tVar 0) (tCons (tVar 1) (tCons (tVar 5) tNil)))) (tCall (sp_law_read P w K) [] E0 (tCons (tVar 0) (tCons (tVar 1) (tCons (tOp rModI (tCB rIntI (tCons (tOp (rIxL K) (tVar 2) (tC (.int 0))) tNil)) (tCB (rLenQ K) (tCons (tVar 4) tNil))) tNil)))))) tNext) (tSeq (tIfS (tTest (tOp rEq (tVar 6) (tC (.int 7)))) (tRet (tCall (sp_law_made P w K) [] E0 (tCons (tVar 0) (tCons (tVar 1) (tCons (tOp (rIxL K) (tVar 4) (tVar 5)) tNil))))) tNext) (tRet (tCall (sp_law_made P w K) [] E0 (tCons (tVar 0) (tCons (tVar 1) (tCons (tCall (sp_law_drawn K) [] E0 (tCons (tVar 4) (tCons (tOp (rIxT K) (tVar 1) (tC (.int 1))) (tCons (tVar 2) (tCons (tC (.int 8)) tNil))))) tNil))))))))))))
theorem len_law_deed {P : Program} {w : World} {K : PySem.W.Frag} {vs : List V} {H : Hp} {Q : VK} {E : XK} (h : sp_law_deed P w K vs H Q E) : vs.length = 4 := by
  obtain ⟨_, _, _, _, _, _, _, _, _, _, _, rfl, _⟩ := h; rfl
theorem pure_law_deed {P : Program} {w : World} {K : PySem.W.Frag} (vs : List V) (H : Hp) (Q : VK) (E : XK) (h : sp_law_deed P w K vs H Q E) : t_law_deed P w K E { nx := fun _ H' => Q .non H', rt := Q } (start N_law_deed vs) H := by
  obtain ⟨Z, A, M, G, hts, hs, ns, ts, dp, ds, cell, rfl, S, hd, dl, db, few, q⟩ := h
  have hst := S.st
  have nsl := S.I.len
  have gl := S.I.len2
  have pg := phi_le G ts
  obtain ⟨xs, hm, fs⟩ := id S.mo
  have xl : xs.length = M.length := fs.1
  have m0 : 0 < M.length := (List.getElem?_eq_some_iff.mp S.FM.zero).1
  obtain ⟨d0, a0, b0, _⟩ := dg_of db (k := 0) (by omega) (by omega)
  obtain ⟨d11, a11, b11, _⟩ := dg_of db (k := 11) (by omega) (by omega)
  obtain ⟨d12, a12, b12, _⟩ := dg_of db (k := 12) (by omega) (by omega)
  unfold t_law_deed
  repeat walk_at "mst"
  refine k_ixL hd a11 ?_
  repeat walk_at "mst"
  have pick : ∀ d : Int, ∃ k : Nat, d % (xs.length : Int) = k ∧ k < M.length := fun d => by
    have h1 := Int.emod_nonneg d (show (xs.length : Int) ≠ 0 by omega)
    have h2 := Int.emod_lt_of_pos d (show (0 : Int) < (xs.length : Int) by omega)
    exact ⟨(d % (xs.length : Int)).toNat, by omega, by omega⟩
  obtain ⟨k, ek, hk⟩ := pick d11
  rw [ek]
  refine k_ixL hd a12 ?_
  repeat walk_at "mst"
  refine k_iteD (fun _ => ?_) (fun _ => ?_)
  · repeat walk_at "mst"
    refine use_lturn S hk (by omega) fun M' G' hts' hs' ns' ts' H' g S' ph => q _ _ _ _ _ _ _ g S' (by omega)
  repeat walk_at "mst"
  refine k_iteD (fun _ => ?_) (fun _ => ?_)
  · repeat walk_at "mst"
    have fb : 0 ≤ cell % 1000000000000000000000000000000 := Int.emod_nonneg _ (by decide)
    generalize cell % 1000000000000000000000000000000 = far at *
    refine ⟨10, rfl, by decide, by decide, ?_⟩
    refine forK_range (fun i σ H' => ∃ x8 x9 : Option V, Ex H H' ∧ σ = [some (.ref A.F.y), some (.ref A.st), some (.ref dp), some (.int cell), some (.ref A.m), some (.int (k : Int)), some (.int (d12 % 8)), some (.int far), x8, x9]) ⟨none, none, Evl.Ex.refl _, rfl⟩ ?_ ?_
    · rintro i σ H' hi ⟨x8, x9, e, rfl⟩
      have S' := S.ex e
      have hm' := e _ _ hm
      repeat walk_at "mst"
      refine ⟨by show 4 ≤ sizeLine; decide, fun L nL => ?_⟩
      have e1 := Evl.Ex.new (o := HO.lst ([-1, (xs.length : Int), (xs.length : Int) + far, -1 - far].map V.int)) nL
      have s1 : upd H' L (HO.lst ([-1, (xs.length : Int), (xs.length : Int) + far, -1 - far].map V.int)) L = some (HO.lst ([-1, (xs.length : Int), (xs.length : Int) + far, -1 - far].map V.int)) := upd_same
      have bads : ∀ x ∈ [-1, (xs.length : Int), (xs.length : Int) + far, -1 - far], ¬ (0 ≤ x ∧ x < (G.length : Int)) := fun x m => by
        simp only [List.mem_cons, List.not_mem_nil, or_false] at m
        rcases m with rfl | rfl | rfl | rfl <;> omega
      generalize hbs : [-1, (xs.length : Int), (xs.length : Int) + far, -1 - far] = bs at *
      have eb : HO.lst [V.int (-1), V.int (xs.length : Int), V.int ((xs.length : Int) + far), V.int (-1 - far)] = HO.lst (bs.map V.int) := by rw [← hbs]; rfl
      first | rw [eb] | skip
      generalize upd H' L (HO.lst (bs.map V.int)) = H1 at *
      refine ⟨L, rfl, ⟨_, k_sq s1⟩, forK_list (xs := bs.map V.int) (fun n σ H'' => ∃ x9 : Option V, Ex H1 H'' ∧ σ = [some (.ref A.F.y), some (.ref A.st), some (.ref dp), some (.int cell), some (.ref A.m), some (.int (k : Int)), some (.int (d12 % 8)), some (.int far), some (.int (i : Int)), x9]) ⟨_, Evl.Ex.refl _, rfl⟩ ?_ ?_ ?_⟩
      · rintro n σ H'' _ ⟨y9, e2, rfl⟩; exact k_sq (e2 _ _ s1)
      · rintro n x σ H'' hx ⟨y9, e2, rfl⟩
        obtain ⟨z, hz, rfl⟩ := get_int hx
        have S'' := S'.ex (e1.trans e2)
        have hst'' := S''.st
        repeat walk_at "mst"
        refine k_ixL (k_sq S''.hn) (nat_at (by omega) (by omega) nsl) ?_
        repeat walk_at "mst"
        have rng := S.I.rng _ (List.mem_of_getElem? (nat_get (ns := ns) (j := (k : Int)) (by omega) (by omega) nsl))
        refine use_refused S''.Y rng (bads z (List.mem_of_getElem? hz)) fun H3 e3 => ?_
        repeat walk_at "mst"
        exact ⟨_, e2.trans e3, rfl⟩
      · rintro σ H'' ⟨y9, e2, rfl⟩
        exact ⟨_, _, e.trans (e1.trans e2), rfl⟩
    · rintro σ H' ⟨x8, x9, e, rfl⟩
      repeat walk_at "mst"
      exact q _ _ _ _ _ _ _ (GrA.of e) (S.ex e) (by omega)
  repeat walk_at "mst"
  refine k_iteD (fun _ => ?_) (fun _ => ?_)
  · repeat walk_at "mst"
    refine use_read S hk (by omega) fun H1 e1 => ?_
    have S1 := S.ex e1
    have hd1 := Evl.ex_l e1 hd
    have hm1 := e1 _ _ hm
    repeat walk_at "mst"
    refine k_ixL hd1 a0 ?_
    repeat walk_at "mst"
    obtain ⟨k2, ek2, hk2⟩ := pick d0
    rw [ek2]
    refine use_read S1 hk2 (by omega) fun H2 e2 => ?_
    exact q _ _ _ _ _ _ _ (GrA.of (e1.trans e2)) (S1.ex e2) (by omega)
  repeat walk_at "mst"
  refine k_iteD (fun _ => ?_) (fun _ => ?_)
  · repeat walk_at "mst"
    obtain ⟨fa, hfa, c, d, hp, hc, hd', zc, zd⟩ := fs.2 k _ (List.getElem?_eq_getElem hk)
    have am := S.FM.asc k _ (List.getElem?_eq_getElem hk)
    have f4 := S.four _ (List.getElem_mem hk)
    refine k_ixL (k_sq hm) (atI_nat hfa) ?_
    repeat walk_at "mst"
    exact use_made S hp hc hd' zc zd (fun x m => by have := am.1.2 x m; omega) (fun x m => by have := am.2.2 x m; omega) f4.1 f4.2 (by omega) fun M' G' hts' hs' ns' H' g S' ph => q _ _ _ _ _ _ _ g S' ph
  repeat walk_at "mst"
  refine use_drawn S.mo S.hh S.hl (sd_zero S.O S.FM) (by decide) hd (by omega) db S.FM (by omega) S.al S.four fun t p1 p2 ls rs H1 e1 ht h1 h2 z1 z2 b1 b2 l1 l2 => ?_
  repeat walk_at "mst"
  refine use_made (S.ex e1) ht h1 h2 z1 z2 b1 b2 l1 l2 (by omega) fun M' G' hts' hs' ns' H' g S' ph => q _ _ _ _ _ _ _ ((GrA.of e1).trans g) S' ph
theorem use_deed {P : Program} {w : World} {K : PySem.W.Frag} {H : Hp} {Q : VK} {E : XK} {Z : Addr → Prop} {A : Adr} {M G : List Pr} {hts hs ns : List Int} {ts : List (Key × V)} {dp : Addr} {ds : List Int} {cell : Int} (S : Sd P w K Z H A M G hts hs ns ts) (hd : SqL K H dp (ds.map V.int)) (dl : 13 ≤ ds.length) (db : ∀ d ∈ ds, 0 ≤ d ∧ d < 60) (few : Phi G ts ≤ 180)
    (q : ∀ (M' G' : List Pr) (hts' hs' ns' : List Int) (ts' : List (Key × V)) (H' : Hp), GrA A H H' → Sd P w K Z H' A M' G' hts' hs' ns' ts' → Phi G' ts' ≤ Phi G ts + 2 → Q (.bl true) H') : sp_law_deed P w K ([.ref A.F.y, .ref A.st, .ref dp, .int cell] ++ []) H Q E := ⟨Z, A, M, G, hts, hs, ns, ts, dp, ds, cell, rfl, S, hd, dl, db, few, q⟩
def sp_law_whole (P : Program) (w : World) (K : PySem.W.Frag) : Sp := fun vs H Q _ => ∃ (Z : Addr → Prop) (A : Adr) (M G : List Pr) (hts hs ns : List Int) (ts : List (Key × V)), vs = [.ref A.F.y, .ref A.st] ∧ Sd P w K Z H A M G hts hs ns ts ∧ Phi G ts ≤ 190 ∧
  ∀ (M' G' : List Pr) (hts' hs' ns' : List Int) (ts' : List (Key × V)) (H' : Hp), GrA A H H' → Sd P w K Z H' A M' G' hts' hs' ns' ts' → Phi G' ts' ≤ Phi G ts → Q (.bl true) H'
abbrev N_law_whole : List Str := ["yard", "state", "numbers", "k", "at"]
def t_law_whole (P : Program) (w : World) (K : PySem.W.Frag) (E : XK) : TS := (tSeq (tAsg (tOp (rIxT K) (tVar 1) (tC (.int 2))) (gName 2)) (tSeq (tIfS (tOr (tNot (tB (tCall (sp_law_all_integers K) [] E0 (tCons (tVar 2) tNil)))) (tTest (tOp (rNeD K) (tCB (rSortedI K) (tCons (tVar 2) tNil)) (tLc (iRng1 (tCons (tCB (rLenQ K) (tCons (tOp (rIxT K) (tVar 1) (tC (.int 0))) tNil)) tNil)) (gName 3) tYes (tVar 3) [3])))) (tRet (tC (.bl false))) tNext) (tSeq (tFor (iRng1 (tCons (tCB (rLenQ K) (tCons (tVar 2) tNil)) tNil)) (gName 4) (tIfS (tNot (tB (tCall (sp_law_read P w K) [] E0 (tCons (tVar 0) (tCons (tVar 1) (tCons (tVar 4) tNil)))))) (tRet (tC (.bl false))) tNext)) (tSeq (tIfS (tOr (tNot (tB (tCall (sp_law_turn P w K) [] E0 (tCons (tVar 0) (tCons (tVar 1) (tCons (tOp rSubI (tCB (rLenQ K) (tCons (tVar 2) tNil)) (tC (.int 1))) tNil)))))) (tNot (tB (tCall (sp_law_turn P w K) [] E0 (tCons (tVar 0) (tCons (tVar 1) (tCons (tOp rDivI (tCB (rLenQ K) (tCons (tVar 2) tNil)) (tC (.int 2))) tNil))))))) (tRet (tC (.bl false))) tNext) (tRet (tCall (sp_law_read P w K) [] E0 (tCons (tVar 0) (tCons (tVar 1) (tCons (tOp rSubI (tCB (rLenQ K) (tCons (tVar 2) tNil)) (tC (.int 1))) tNil)))))))))
theorem len_law_whole {P : Program} {w : World} {K : PySem.W.Frag} {vs : List V} {H : Hp} {Q : VK} {E : XK} (h : sp_law_whole P w K vs H Q E) : vs.length = 2 := by
  obtain ⟨_, _, _, _, _, _, _, _, rfl, _⟩ := h; rfl
theorem k_neIs {K : PySem.W.Frag} {H : Hp} {Q : VK} {a b : Addr} {g h : List Int} (f1 : SqL K H a (g.map V.int)) (f2 : SqL K H b (h.map V.int)) (q : Q (.bl (!decide (g = h))) H) : rNeD K (.ref a) (.ref b) H Q :=
  ⟨_, _, .lst f1 (dp_ints g), .lst f2 (dp_ints h), shaped_ints g, shaped_ints h, by rw [eqv_ints]; exact q⟩
theorem pure_law_whole {P : Program} {w : World} {K : PySem.W.Frag} (vs : List V) (H : Hp) (Q : VK) (E : XK) (h : sp_law_whole P w K vs H Q E) : t_law_whole P w K E { nx := fun _ H' => Q .non H', rt := Q } (start N_law_whole vs) H := by
  obtain ⟨Z, A, M, G, hts, hs, ns, ts, rfl, S, few, q⟩ := h
  have hst := S.st
  have nsl := S.I.len
  have gl := S.I.len2
  have pg := phi_le G ts
  obtain ⟨xs, hm, fs⟩ := id S.mo
  have xl : xs.length = M.length := fs.1
  have m0 : 0 < M.length := (List.getElem?_eq_some_iff.mp S.FM.zero).1
  unfold t_law_whole
  repeat walk_at "mst"
  refine use_all_integers (k_sq S.hn) (by omega) fun H1 e1 => ?_
  have S1 := S.ex e1
  have hst1 := S1.st
  have hm1 := e1 _ _ hm
  repeat walk_at "mst"
  refine ⟨_, _, rfl, k_sq S1.hn, fun ns' p pm le np => ?_⟩
  have mem : ∀ x, x ∈ ns ↔ x ∈ nums M.length := fun x => by
    rw [mem_nums]
    constructor
    · intro m; have := S.I.rng x m; omega
    · intro b
      obtain ⟨j, hj⟩ := S.I.all (n := x.toNat) (by omega)
      rw [show ((x.toNat : Nat) : Int) = x by omega] at hj
      exact List.mem_of_getElem? hj
  have es : ns' = nums M.length := asc_ext (lt_of_le_nodup ns' le (pm.nodup_iff.mpr S.I.nd)) (nums_asc _).1 fun x => pm.mem_iff.trans (mem x)
  subst es
  have e2 := Evl.Ex.new (o := HO.lst ((nums M.length).map V.int)) np
  have s2 : upd H1 p (HO.lst ((nums M.length).map V.int)) p = some (HO.lst ((nums M.length).map V.int)) := upd_same
  generalize upd H1 p (HO.lst ((nums M.length).map V.int)) = H2 at *
  have hst2 := e2 _ _ hst1
  have hm2 := e2 _ _ hm1
  repeat walk_at "mst"
  refine ⟨_, rfl, by omega, by omega, ?_⟩
  rw [Int.toNat_natCast, xl]
  refine lcR_rng (fun i : Nat => some (V.int (i : Int))) (Nat.lt_of_le_of_lt (show _ ≤ 300 by omega) (by decide)) (fun i hi => ?_) fun D H3 nD e3 hD => ?_
  · refine turn_map fun H' e R r => ?_
    repeat walk_at "mst"
    exact r
  have er : (List.range M.length).filterMap (fun i : Nat => some (V.int (i : Int))) = (nums M.length).map V.int := rng_map M.length fun i : Nat => (i : Int)
  rw [er] at hD
  repeat walk_at "mst"
  refine k_neIs (k_sq (e3 _ _ s2)) (k_sq hD) ?_
  rw [decide_eq_true rfl]
  repeat walk_at "mst"
  have e03 := e1.trans (e2.trans e3)
  have S3 := S.ex e03
  have hn3 := S3.hn
  repeat walk_at "mst"
  refine ⟨_, rfl, by rw [List.length_map]; omega, by rw [List.length_map]; omega, ?_⟩
  rw [Int.toNat_natCast, List.length_map]
  refine forK_range (fun i σ H' => ∃ x3 x4 : Option V, Ex H3 H' ∧ σ = [some (.ref A.F.y), some (.ref A.st), some (.ref A.np), x3, x4]) ⟨_, _, Evl.Ex.refl _, rfl⟩ ?_ ?_
  · rintro i σ H' hi ⟨x3, x4, e, rfl⟩
    have S' := S3.ex e
    repeat walk_at "mst"
    refine use_read S' (by omega) (by omega) fun H1 e1 => ?_
    repeat walk_at "mst"
    exact ⟨_, _, e.trans e1, rfl⟩
  · rintro σ H' ⟨x3, x4, e, rfl⟩
    have S' := S3.ex e
    have hn' := S'.hn
    repeat walk_at "mst"
    rw [List.length_map, show (ns.length : Int) - 1 = ((ns.length - 1 : Nat) : Int) by omega]
    refine use_lturn S' (by omega) (by omega) fun M4 G4 hts4 hs4 ns4 ts4 H4 g4 S4 ph4 => ?_
    have nl4 := S4.I.len
    have gl4 := S4.I.len2
    have pg4 := phi_le G4 ts4
    have m04 : 0 < M4.length := (List.getElem?_eq_some_iff.mp S4.FM.zero).1
    have hn4 := S4.hn
    repeat walk_at "mst"
    rw [List.length_map, show (ns4.length : Int) / 2 = ((ns4.length / 2 : Nat) : Int) by omega]
    refine use_lturn S4 (by omega) (by omega) fun M5 G5 hts5 hs5 ns5 ts5 H5 g5 S5 ph5 => ?_
    have nl5 := S5.I.len
    have gl5 := S5.I.len2
    have pg5 := phi_le G5 ts5
    have m05 : 0 < M5.length := (List.getElem?_eq_some_iff.mp S5.FM.zero).1
    have hn5 := S5.hn
    repeat walk_at "mst"
    rw [List.length_map, show (ns5.length : Int) - 1 = ((ns5.length - 1 : Nat) : Int) by omega]
    refine use_read S5 (by omega) (by omega) fun H6 e6 => ?_
    exact q _ _ _ _ _ _ _ ((GrA.of (e03.trans e)).trans (g4.trans (g5.trans (GrA.of e6)))) (S5.ex e6) (by omega)
theorem use_whole {P : Program} {w : World} {K : PySem.W.Frag} {H : Hp} {Q : VK} {E : XK} {Z : Addr → Prop} {A : Adr} {M G : List Pr} {hts hs ns : List Int} {ts : List (Key × V)} (S : Sd P w K Z H A M G hts hs ns ts) (few : Phi G ts ≤ 190)
    (q : ∀ (M' G' : List Pr) (hts' hs' ns' : List Int) (ts' : List (Key × V)) (H' : Hp), GrA A H H' → Sd P w K Z H' A M' G' hts' hs' ns' ts' → Phi G' ts' ≤ Phi G ts → Q (.bl true) H') : sp_law_whole P w K ([.ref A.F.y, .ref A.st] ++ []) H Q E := ⟨Z, A, M, G, hts, hs, ns, ts, rfl, S, few, q⟩
def sp_law (P : Program) (w : World) (K : PySem.W.Frag) : Sp := spR (fun vs H => ∃ (a : Addr) (ns : List Int), vs = [.ref a] ∧ SqL K H a (ns.map V.int)) (fun _ _ v _ => v = .bl true)
local macro_rules | `(tactic| walk_at "new") => `(tactic| ((first | refine ⟨fits (Nat.le_of_ble_eq_true rfl), ?_⟩ | skip); intro p np; generalize hq : upd _ p _ = H1; have e1 := nx np hq; have s1 := nS hq; clear hq))
abbrev N_law : List Str := ["script", "yards", "states", "k", "cell", "digits", "which", "i", "size"]
def t_law (P : Program) (w : World) (K : PySem.W.Frag) (E : XK) : TS := (tSeq (tAsg (tLst (tCons (tMake (He.ga K "Yard") (sp_Yard_d_init P w K) [] E0 tNil) (tCons (tMake (He.ga K "Yard") (sp_Yard_d_init P w K) [] E0 tNil) tNil))) (gName 1)) (tSeq (tAsg (tLst (tCons (tTup (tCons (tLst (tCons (tTup (tCons (tLst tNil) (tCons (tLst tNil) tNil))) tNil)) (tCons (tLst (tCons (tC (.int 0)) tNil)) (tCons (tLst (tCons (tC (.int 0)) tNil)) tNil)))) (tCons (tTup (tCons (tLst (tCons (tTup (tCons (tLst tNil) (tCons (tLst tNil) tNil))) tNil)) (tCons (tLst (tCons (tC (.int 0)) tNil)) (tCons (tLst (tCons (tC (.int 0)) tNil)) tNil)))) tNil))) (gName 2)) (tSeq (tFor (iRng1 (tCons (tCB rMax2 (tCons (tC (.int 12)) (tCons (tCB rMin2 (tCons (tC (.int 80)) (tCons (tCB (rLenQ K) (tCons (tVar 0) tNil)) tNil))) tNil))) tNil)) (gName 3) (tSeq (tAsg (tCall (sp_law_cell K) [] E0 (tCons (tVar 0) (tCons (tVar 3) tNil))) (gName 4)) (tSeq (tAsg (tCall (sp_law_digits K) [] E0 (tCons (tVar 4) (tCons (tC (.int 14)) tNil))) (gName 5)) (tSeq (tAsg (tOp rModI (tCB rIntI (tCons (tOp (rIxL K) (tVar 5) (tC (.int 13))) tNil)) (tC (.int 2))) (gName 6)) (tSeq (tIfS (tNot (tB (tCall (sp_law_deed P w K) [] E0 (tCons (tOp (rIxL K) (tVar 1) (tVar 6)) (tCons (tOp (rIxL K) (tVar 2) (tVar 6)) (tCons (tVar 5) (tCons (tVar 4) tNil))))))) (tRet (tC (.bl false))) tNext) (tFor (iRng1 (tCons (tC (.int 2)) tNil)) (gName 7) (tSeq (tAsg (tProp (He.ga K "Yard") (sp_Yard_m_size K) [] E0 (tOp (rIxL K) (tVar 1) (tVar 7))) (gName 8)) (tIfS (tOr (tNot (tB (tCall (sp_law_is_integer K) [] E0 (tCons (tVar 8) tNil)))) (tTest (tOp rNe (tVar 8) (tCB (rLenQ K) (tCons (tOp (rIxT K) (tOp (rIxL K) (tVar 2) (tVar 7)) (tC (.int 0))) tNil))))) (tRet (tC (.bl false))) tNext)))))))) (tRet (tAndV (tCall (sp_law_whole P w K) [] E0 (tCons (tOp (rIxL K) (tVar 1) (tC (.int 0))) (tCons (tOp (rIxL K) (tVar 2) (tC (.int 0))) tNil))) (tCall (sp_law_whole P w K) [] E0 (tCons (tOp (rIxL K) (tVar 1) (tC (.int 1))) (tCons (tOp (rIxL K) (tVar 2) (tC (.int 1))) tNil))))))))
theorem len_law {P : Program} {w : World} {K : PySem.W.Frag} {vs : List V} {H : Hp} {Q : VK} {E : XK} (h : sp_law P w K vs H Q E) : vs.length = 1 := by
  obtain ⟨⟨_, _, rfl, _⟩, _⟩ := h; rfl
/-- a side, whatever it holds -/
def Any (P : Program) (w : World) (K : PySem.W.Frag) (Z : Addr → Prop) (H : Hp) (A : Adr) (b : Nat) : Prop := ∃ (M G : List Pr) (hts hs ns : List Int) (ts : List (Key × V)), Sd P w K Z H A M G hts hs ns ts ∧ Phi G ts ≤ b
theorem iso0 : Iso [([], [])] [([], [])] [0] := by
  refine ⟨⟨rfl, by simp, fun x m => ?_, fun k p n hk hn => ?_⟩, rfl⟩
  · rw [List.mem_singleton.mp m]; exact ⟨by omega, by decide⟩
  · cases k with
    | zero =>
      cases hk; cases hn
      exact ⟨([], []), rfl, ⟨List.Pairwise.nil, fun x => ⟨fun m => (nomatch m), fun ⟨_, m, _⟩ => (nomatch m)⟩⟩, ⟨List.Pairwise.nil, fun x => ⟨fun m => (nomatch m), fun ⟨_, m, _⟩ => (nomatch m)⟩⟩⟩
    | succ k => simp at hk
theorem sd0 {P : Program} {w : World} {K : PySem.W.Frag} {Z : Addr → Prop} {H : Hp} {A : Adr} {f c d : Addr} (Y : YardAt P w K H A.F [([], [])] [0] ts0) (st : H A.st = some (.tup [.ref A.m, .ref A.hp, .ref A.np])) (hm : H A.m = some (.lst [.ref f])) (hf : H f = some (.tup [.ref c, .ref d])) (hc : H c = some (.lst [])) (hd : H d = some (.lst [])) (zc : ¬ Z c) (zd : ¬ Z d)
    (hh : H A.hp = some (.lst [.int 0])) (hn : H A.np = some (.lst [.int 0])) (off : Off A.F A.m ∧ Off A.F A.hp ∧ Off A.F A.np) (ne : A.m ≠ A.hp ∧ A.m ≠ A.np ∧ A.hp ≠ A.np) (own : ∀ c, A.own c → Z c) (al : ∀ c, Z c → H c ≠ none) : Any P w K Z H A 2 := by
  refine ⟨[([], [])], [([], [])], [0], [0], [0], ts0, ⟨Y, tok0 Y.G, lok0 Y.G, st, ⟨_, hm, rfl, fun i g e => ?_⟩, hh, rfl, hn, iso0, Y.G, Y.ht, fun p m => ?_, off, ne, own, al⟩, phi0 _ _⟩
  · cases i with
    | zero => cases e; exact ⟨f, rfl, c, d, hf, hc, hd, zc, zd⟩
    | succ i => simp at e
  · rw [List.mem_singleton.mp m]; exact ⟨by decide, by decide⟩
theorem Any.other {P : Program} {w : World} {K : PySem.W.Frag} {Z : Addr → Prop} {H H' : Hp} {A B : Adr} {b : Nat} {M G M2 G2 : List Pr} {hts hs ns hts2 hs2 ns2 : List Int} {ts ts2 : List (Key × V)} (x : Any P w K Z H B b) (S : Sd P w K Z H A M G hts hs ns ts) (g : GrA A H H') (S2 : Sd P w K Z H' A M2 G2 hts2 hs2 ns2 ts2) (dj : ∀ c, A.own c → ¬ B.own c) : Any P w K Z H' B b :=
  let ⟨_, _, _, _, _, _, SB, ph⟩ := x
  ⟨_, _, _, _, _, _, SB.other S g S2.al dj, ph⟩
theorem pure_law {P : Program} {w : World} {K : PySem.W.Frag} (vs : List V) (H : Hp) (Q : VK) (E : XK) (h : sp_law P w K vs H Q E) : t_law P w K E { nx := fun _ H' => Q .non H', rt := Q } (start N_law vs) H := by
  obtain ⟨⟨a, ns, rfl, hS⟩, q⟩ := h
  have fin : ∀ b H', b = true → Q (.bl b) H' := by rintro b H' rfl; exact q _ _ rfl
  unfold t_law
  repeat walk_at "mst"
  refine mk_yard fun FA H1 fr1 Y1 => ?_
  have e1 : Ex H H1 := fun c o z => (fr1 c o z).1
  repeat walk_at "mst"
  refine mk_yard fun FB H2 fr2 Y2 => ?_
  have e2 : Ex H1 H2 := fun c o z => (fr2 c o z).1
  have e02 := e1.trans e2
  have YA2 : YardAt P w K H2 FA [([], [])] [0] ts0 := Y1.ex e2
  have Y2 : YardAt P w K H2 FB [([], [])] [0] ts0 := Y2
  have djF : ∀ c, ¬ Off FA c → Off FB c := fun c n => by
    cases z : H1 c with
    | none => exact absurd z (Y1.own_al n)
    | some o => exact (fr2 _ _ z).2
  repeat walk_at "mst"
  walk_at "new"; rename_i yl nyl H3 e3 s3
  repeat walk_at "mst"
  walk_at "new"; rename_i cA ncA H4 e4 s4
  repeat walk_at "mst"
  walk_at "new"; rename_i dA ndA H5 e5 s5
  repeat walk_at "mst"
  walk_at "new"; rename_i fA nfA H6 e6 s6
  repeat walk_at "mst"
  walk_at "new"; rename_i mA nmA H7 e7 s7
  repeat walk_at "mst"
  walk_at "new"; rename_i hA nhA H8 e8 s8
  repeat walk_at "mst"
  walk_at "new"; rename_i nA nnA H9 e9 s9
  repeat walk_at "mst"
  walk_at "new"; rename_i tA ntA H10 e10 s10
  repeat walk_at "mst"
  walk_at "new"; rename_i cB ncB H11 e11 s11
  repeat walk_at "mst"
  walk_at "new"; rename_i dB ndB H12 e12 s12
  repeat walk_at "mst"
  walk_at "new"; rename_i fB nfB H13 e13 s13
  repeat walk_at "mst"
  walk_at "new"; rename_i mB nmB H14 e14 s14
  repeat walk_at "mst"
  walk_at "new"; rename_i hB nhB H15 e15 s15
  repeat walk_at "mst"
  walk_at "new"; rename_i nB nnB H16 e16 s16
  repeat walk_at "mst"
  walk_at "new"; rename_i tB ntB H17 e17 s17
  repeat walk_at "mst"
  walk_at "new"; rename_i sl nsl H18 e18 s18
  repeat walk_at "mst"
  have NN := NL.nil H2
  have NN := NN.cons nyl e3 s3
  have NN := NN.cons ncA e4 s4
  have NN := NN.cons ndA e5 s5
  have NN := NN.cons nfA e6 s6
  have NN := NN.cons nmA e7 s7
  have NN := NN.cons nhA e8 s8
  have NN := NN.cons nnA e9 s9
  have NN := NN.cons ntA e10 s10
  have NN := NN.cons ncB e11 s11
  have NN := NN.cons ndB e12 s12
  have NN := NN.cons nfB e13 s13
  have NN := NN.cons nmB e14 s14
  have NN := NN.cons nhB e15 s15
  have NN := NN.cons nnB e16 s16
  have NN := NN.cons ntB e17 s17
  have NN := NN.cons nsl e18 s18
  have u17 := e18
  have u16 := e17.trans u17
  have u15 := e16.trans u16
  have u14 := e15.trans u15
  have u13 := e14.trans u14
  have u12 := e13.trans u13
  have u11 := e12.trans u12
  have u10 := e11.trans u11
  have u9 := e10.trans u10
  have u8 := e9.trans u9
  have u7 := e8.trans u8
  have u6 := e7.trans u7
  have u5 := e6.trans u6
  have u4 := e5.trans u5
  have u3 := e4.trans u4
  have u2 := e3.trans u3
  have oA : ∀ i x, [sl, tB, nB, hB, mB, fB, dB, cB, tA, nA, hA, mA, fA, dA, cA, yl][i]? = some x → Off FA x := fun i x h => YA2.fresh (NN.at i h)
  have oB : ∀ i x, [sl, tB, nB, hB, mB, fB, dB, cB, tA, nA, hA, mA, fA, dA, cA, yl][i]? = some x → Off FB x := fun i x h => Y2.fresh (NN.at i h)
  obtain ⟨A, eA⟩ : ∃ A : Adr, A = ⟨FA, tA, mA, hA, nA⟩ := ⟨_, rfl⟩
  obtain ⟨B, eB⟩ : ∃ B : Adr, B = ⟨FB, tB, mB, hB, nB⟩ := ⟨_, rfl⟩
  obtain ⟨Z, eZ⟩ : ∃ Z : Addr → Prop, Z = fun c => A.own c ∨ B.own c := ⟨_, rfl⟩
  have nA' : ∀ i x, [sl, tB, nB, hB, mB, fB, dB, cB, tA, nA, hA, mA, fA, dA, cA, yl][i]? = some x → i ≠ 9 → i ≠ 10 → i ≠ 11 → ¬ A.own x := fun i x h h1 h2 h3 o => by
    rw [eA] at o
    rcases o with o | o | o | o
    · exact o (oA i x h)
    · exact NN.ne i 11 h rfl h3 o
    · exact NN.ne i 10 h rfl h2 o
    · exact NN.ne i 9 h rfl h1 o
  have nB' : ∀ i x, [sl, tB, nB, hB, mB, fB, dB, cB, tA, nA, hA, mA, fA, dA, cA, yl][i]? = some x → i ≠ 2 → i ≠ 3 → i ≠ 4 → ¬ B.own x := fun i x h h1 h2 h3 o => by
    rw [eB] at o
    rcases o with o | o | o | o
    · exact o (oB i x h)
    · exact NN.ne i 4 h rfl h3 o
    · exact NN.ne i 3 h rfl h2 o
    · exact NN.ne i 2 h rfl h1 o
  have dAB : ∀ c, A.own c → ¬ B.own c := fun c o => by
    rw [eA] at o
    rcases o with o | rfl | rfl | rfl
    · intro o2
      rw [eB] at o2
      rcases o2 with o2 | rfl | rfl | rfl
      · exact o2 (djF c o)
      · exact o (oA 4 _ rfl)
      · exact o (oA 3 _ rfl)
      · exact o (oA 2 _ rfl)
    · exact nB' 11 _ rfl (by decide) (by decide) (by decide)
    · exact nB' 10 _ rfl (by decide) (by decide) (by decide)
    · exact nB' 9 _ rfl (by decide) (by decide) (by decide)
  have dBA : ∀ c, B.own c → ¬ A.own c := fun c b a => dAB c a b
  have nZ : ∀ i x, [sl, tB, nB, hB, mB, fB, dB, cB, tA, nA, hA, mA, fA, dA, cA, yl][i]? = some x → i ≠ 9 → i ≠ 10 → i ≠ 11 → i ≠ 2 → i ≠ 3 → i ≠ 4 → ¬ Z x := fun i x h a b c d e f => by
    rw [eZ]; exact fun o => o.elim (nA' i x h a b c) (nB' i x h d e f)
  have YA := YA2.ex u2
  have YB := Y2.ex u2
  have sne : ∀ {H5 : Hp} {x : Addr} {o : HO}, H5 x = some o → H5 x ≠ none := fun h z => by rw [h] at z; cases z
  have al : ∀ c, Z c → H18 c ≠ none := by
    rw [eZ, eA, eB]
    rintro c ((o | rfl | rfl | rfl) | (o | rfl | rfl | rfl))
    · exact YA.own_al o
    · exact sne (u7 _ _ s7)
    · exact sne (u8 _ _ s8)
    · exact sne (u9 _ _ s9)
    · exact YB.own_al o
    · exact sne (u14 _ _ s14)
    · exact sne (u15 _ _ s15)
    · exact sne (u16 _ _ s16)
  have SA : Any P w K Z H18 A 2 := by
    refine sd0 (f := fA) (c := cA) (d := dA) ?_ ?_ ?_ (u6 _ _ s6) (u4 _ _ s4) (u5 _ _ s5) (nZ 14 _ rfl (by decide) (by decide) (by decide) (by decide) (by decide) (by decide)) (nZ 13 _ rfl (by decide) (by decide) (by decide) (by decide) (by decide) (by decide)) ?_ ?_ ?_ ?_ (by rw [eZ]; exact fun c o => Or.inl o) al
    · rw [eA]; exact YA
    · rw [eA]; exact u10 _ _ s10
    · rw [eA]; exact u7 _ _ s7
    · rw [eA]; exact u8 _ _ s8
    · rw [eA]; exact u9 _ _ s9
    · rw [eA]; exact ⟨oA 11 _ rfl, oA 10 _ rfl, oA 9 _ rfl⟩
    · rw [eA]; exact ⟨NN.ne 11 10 rfl rfl (by decide), NN.ne 11 9 rfl rfl (by decide), NN.ne 10 9 rfl rfl (by decide)⟩
  have SB : Any P w K Z H18 B 2 := by
    refine sd0 (f := fB) (c := cB) (d := dB) ?_ ?_ ?_ (u13 _ _ s13) (u11 _ _ s11) (u12 _ _ s12) (nZ 7 _ rfl (by decide) (by decide) (by decide) (by decide) (by decide) (by decide)) (nZ 6 _ rfl (by decide) (by decide) (by decide) (by decide) (by decide) (by decide)) ?_ ?_ ?_ ?_ (by rw [eZ]; exact fun c o => Or.inr o) al
    · rw [eB]; exact YB
    · rw [eB]; exact u17 _ _ s17
    · rw [eB]; exact u14 _ _ s14
    · rw [eB]; exact u15 _ _ s15
    · rw [eB]; exact u16 _ _ s16
    · rw [eB]; exact ⟨oB 4 _ rfl, oB 3 _ rfl, oB 2 _ rfl⟩
    · rw [eB]; exact ⟨NN.ne 4 3 rfl rfl (by decide), NN.ne 4 2 rfl rfl (by decide), NN.ne 3 2 rfl rfl (by decide)⟩
  have zy : ¬ Z yl := nZ 15 _ rfl (by decide) (by decide) (by decide) (by decide) (by decide) (by decide)
  have zs : ¬ Z sl := nZ 0 _ rfl (by decide) (by decide) (by decide) (by decide) (by decide) (by decide)
  have za : ∀ o, H a = some o → ¬ Z a := fun o h => by
    have ha2 := e02 _ _ h
    have nn : ∀ i x, [sl, tB, nB, hB, mB, fB, dB, cB, tA, nA, hA, mA, fA, dA, cA, yl][i]? = some x → a ≠ x := fun i x hx => ne_of_none ha2 (NN.at i hx)
    rw [eZ, eA, eB]
    rintro ((z | z | z | z) | (z | z | z | z))
    · exact z (fr1 _ _ h).2
    · exact nn 11 _ rfl z
    · exact nn 10 _ rfl z
    · exact nn 9 _ rfl z
    · exact z (fr2 _ _ (e1 _ _ h)).2
    · exact nn 4 _ rfl z
    · exact nn 3 _ rfl z
    · exact nn 2 _ rfl z
  have FyA : FA.y = A.F.y := by rw [eA]
  have FyB : FB.y = B.F.y := by rw [eB]
  have stA : tA = A.st := by rw [eA]
  have stB : tB = B.st := by rw [eB]
  have hy : H18 yl = some (.lst [V.ref A.F.y, V.ref B.F.y]) := by rw [← FyA, ← FyB]; exact u3 _ _ s3
  have hs : H18 sl = some (.lst [V.ref A.st, V.ref B.st]) := by rw [← stA, ← stB]; exact s18
  have e0 := e02.trans u2
  have hS0 := Evl.ex_l e0 hS
  repeat walk_at "mst"
  rename_i mn hmn1 hmn2 hmn3 mx hmx1 hmx2 hmx3
  refine ⟨_, rfl, by omega, by omega, ?_⟩
  have AZ : ∀ c, A.own c → Z c := fun c o => by rw [eZ]; exact Or.inl o
  have BZ : ∀ c, B.own c → Z c := fun c o => by rw [eZ]; exact Or.inr o
  clear nA' nB' oA oB nZ NN djF
  refine forK_range (fun i σ H' => ∃ x3 x4 x5 x6 x7 x8 : Option V, Keep Z H18 H' ∧ Any P w K Z H' A (2 + 2 * i) ∧ Any P w K Z H' B (2 + 2 * i) ∧ σ = [some (.ref a), some (.ref yl), some (.ref sl), x3, x4, x5, x6, x7, x8]) ⟨_, _, _, _, _, _, fun c o h _ => h, SA, SB, rfl⟩ ?_ ?_
  · rintro i σ H' hi ⟨x3, x4, x5, x6, x7, x8, kp, SA', SB', rfl⟩
    have hS' := sql_keep hS (fun c o h n => kp _ _ (e0 _ _ h) n) za
    repeat walk_at "mst"
    refine use_cell hS' (by omega) fun cc => ?_
    repeat walk_at "mst"
    refine use_digits ⟨by decide, by decide⟩ fun dp ds H1 ndp e1 hd dl db => ?_
    obtain ⟨d13, a13, b13, _⟩ := dg_of db (k := 13) (by omega) (by omega)
    have hy1 := e1 _ _ (kp _ _ hy zy)
    have hs1 := e1 _ _ (kp _ _ hs zs)
    repeat walk_at "mst"
    refine k_ixL (k_sq hd) a13 ?_
    repeat walk_at "mst"
    obtain ⟨X, iy, is, M, G, hts, hs', ns', ts, SX, ph, nx⟩ : ∃ (X : Adr), atI [V.ref A.F.y, V.ref B.F.y] (d13 % 2) = some (V.ref X.F.y) ∧ atI [V.ref A.st, V.ref B.st] (d13 % 2) = some (V.ref X.st) ∧ ∃ (M G : List Pr) (hts hs' ns' : List Int) (ts : List (Key × V)), Sd P w K Z H1 X M G hts hs' ns' ts ∧ Phi G ts ≤ 2 + 2 * i ∧
        ∀ (M' G' : List Pr) (hts' hs' ns' : List Int) (ts' : List (Key × V)) (H2 : Hp), GrA X H1 H2 → Sd P w K Z H2 X M' G' hts' hs' ns' ts' → Phi G' ts' ≤ Phi G ts + 2 → Keep Z H18 H2 ∧ Any P w K Z H2 A (2 + 2 * (i + 1)) ∧ Any P w K Z H2 B (2 + 2 * (i + 1)) := by
      obtain ⟨MA, GA, htsA, hsA, nsA, tsA, SdA, phA⟩ := SA'
      obtain ⟨MB, GB, htsB, hsB, nsB, tsB, SdB, phB⟩ := SB'
      have k1 : Keep Z H18 H1 := Keep.trans kp (Keep.of e1)
      rcases (show d13 % 2 = 0 ∨ d13 % 2 = 1 by omega) with e | e
      · rw [e]
        refine ⟨A, rfl, rfl, MA, GA, htsA, hsA, nsA, tsA, SdA.ex e1, phA, fun M' G' hts' hs' ns' ts' H2 g S' p => ?_⟩
        have SB1 : Any P w K Z H1 B (2 + 2 * i) := ⟨_, _, _, _, _, _, SdB.ex e1, phB⟩
        obtain ⟨_, _, _, _, _, _, SB2, pB⟩ := SB1.other (SdA.ex e1) g S' dAB
        exact ⟨fun c o h n => g _ _ (k1 _ _ h n) fun o => n (AZ c o), ⟨_, _, _, _, _, _, S', by omega⟩, ⟨_, _, _, _, _, _, SB2, by omega⟩⟩
      · rw [e]
        refine ⟨B, rfl, rfl, MB, GB, htsB, hsB, nsB, tsB, SdB.ex e1, phB, fun M' G' hts' hs' ns' ts' H2 g S' p => ?_⟩
        have SA1 : Any P w K Z H1 A (2 + 2 * i) := ⟨_, _, _, _, _, _, SdA.ex e1, phA⟩
        obtain ⟨_, _, _, _, _, _, SA2, pA⟩ := SA1.other (SdB.ex e1) g S' dBA
        exact ⟨fun c o h n => g _ _ (k1 _ _ h n) fun o => n (BZ c o), ⟨_, _, _, _, _, _, SA2, by omega⟩, ⟨_, _, _, _, _, _, S', by omega⟩⟩
    refine k_ixL (k_sq hy1) iy ?_
    repeat walk_at "mst"
    refine k_ixL (k_sq hs1) is ?_
    repeat walk_at "mst"
    refine use_deed SX (k_sq hd) (by omega) db (by omega) fun M' G' hts' hs' ns' ts' H2 g S' p => ?_
    obtain ⟨k2, SA2, SB2⟩ := nx _ _ _ _ _ _ _ g S' p
    have hy2 := k2 _ _ hy zy
    have hs2 := k2 _ _ hs zs
    repeat walk_at "mst"
    refine ⟨2, rfl, by decide, by decide, ?_⟩
    refine forK_range (fun j σ H'' => ∃ x7 x8 : Option V, H'' = H2 ∧ σ = [some (.ref a), some (.ref yl), some (.ref sl), some (.int (i : Int)), some (.int cc), some (.ref dp), some (.int (d13 % 2)), x7, x8]) ⟨_, _, rfl, rfl⟩ ?_ ?_
    · rintro j σ H'' hj ⟨y7, y8, rfl, rfl⟩
      have hj : j < 2 := hj
      obtain ⟨X, iy, is, M, G, hts, hs', ns', ts, SX⟩ : ∃ (X : Adr), atI [V.ref A.F.y, V.ref B.F.y] (j : Int) = some (V.ref X.F.y) ∧ atI [V.ref A.st, V.ref B.st] (j : Int) = some (V.ref X.st) ∧ ∃ (M G : List Pr) (hts hs' ns' : List Int) (ts : List (Key × V)), Sd P w K Z H'' X M G hts hs' ns' ts := by
        obtain ⟨MA, GA, htsA, hsA, nsA, tsA, SdA, _⟩ := SA2
        obtain ⟨MB, GB, htsB, hsB, nsB, tsB, SdB, _⟩ := SB2
        match j, hj with
        | 0, _ => exact ⟨A, rfl, rfl, _, _, _, _, _, _, SdA⟩
        | 1, _ => exact ⟨B, rfl, rfl, _, _, _, _, _, _, SdB⟩
      obtain ⟨xs, hm, fs⟩ := id SX.mo
      have xl : xs.length = M.length := fs.1
      have stX := SX.st
      have nsl := SX.I.len
      have gl := SX.I.len2
      repeat walk_at "mst"
      refine k_ixL (k_sq hy2) iy ?_
      repeat walk_at "mst"
      refine ⟨X.F.y, X.F.dx, yfs X.F, rfl, SX.Y.ins, use_size SX.Y ?_⟩
      repeat walk_at "mst"
      refine k_ixL (k_sq hs2) is ?_
      repeat walk_at "mst"
      refine k_iteD (fun h => absurd (show (G.length : Int) = xs.length by omega) h) (fun _ => ?_)
      repeat walk_at "mst"
      exact ⟨_, _, rfl, rfl⟩
    · rintro σ H'' ⟨y7, y8, rfl, rfl⟩
      exact ⟨_, _, _, _, _, _, k2, SA2, SB2, rfl⟩
  · rintro σ H' ⟨x3, x4, x5, x6, x7, x8, kp, SA', SB', rfl⟩
    have hy' := kp _ _ hy zy
    have hs' := kp _ _ hs zs
    obtain ⟨MA, GA, htsA, hsA, nsA, tsA, SdA, phA⟩ := SA'
    repeat walk_at "mst"
    refine k_ixL (k_sq hy') (show _ = some (V.ref A.F.y) from rfl) ?_
    repeat walk_at "mst"
    refine k_ixL (k_sq hs') (show _ = some (V.ref A.st) from rfl) ?_
    repeat walk_at "mst"
    refine use_whole SdA (by omega) fun M' G' hts' hs1 ns' ts' H2 g S' p => ?_
    obtain ⟨_, _, _, _, _, _, SB2, pB⟩ := SB'.other SdA g S' dAB
    have k2 : Keep Z H18 H2 := fun c o h n => g _ _ (kp _ _ h n) fun o => n (AZ c o)
    have hy2 := k2 _ _ hy zy
    have hs2 := k2 _ _ hs zs
    repeat walk_at "mst"
    refine k_ixL (k_sq hy2) (show _ = some (V.ref B.F.y) from rfl) ?_
    repeat walk_at "mst"
    refine k_ixL (k_sq hs2) (show _ = some (V.ref B.st) from rfl) ?_
    repeat walk_at "mst"
    exact use_whole SB2 (by omega) fun M' G' hts' hs1 ns' ts' H3 g3 S3 p3 => fin _ _ rfl
theorem hu65R {A : Around} {k : Nat} (hr : Room k A) : A.units + 65 < cLine := by have := hr.un; omega
def top (i : Nat) : Stmt := PySem.Challenge.pw_sumsplay_k13_whole_yard.main.body.getD i (.Pass ⟨0, 0, 0, 0⟩)
abbrev s_Yard_d_init : Stmt := inClass (top 7) 0
abbrev R_Yard_d_init : List Str := ["self"]
theorem sc_Yard_d_init : FnScope R_Yard_d_init ["self"] (defScope s_Yard_d_init) := ⟨rfl, rfl, rfl, by decide +kernel, rfl, by decide +kernel, by decide +kernel⟩
abbrev ad_Yard_d_init (K : PySem.W.Frag) : Addr := He.ma K (He.ga K "Yard") "__init__"
abbrev s_law_cell : Stmt := top 9
abbrev R_law_cell : List Str := ["script", "k", "mixed", "cell"]
theorem sc_law_cell : FnScope R_law_cell ["script", "k"] (defScope s_law_cell) := ⟨rfl, rfl, rfl, by decide +kernel, rfl, by decide +kernel, by decide +kernel⟩
abbrev ad_law_cell (K : PySem.W.Frag) : Addr := He.ga K "_law_cell"
abbrev s_law_digits : Stmt := top 10
abbrev R_law_digits : List Str := ["cell", "count", "row", "k", "seed"]
theorem sc_law_digits : FnScope R_law_digits ["cell", "count"] (defScope s_law_digits) := ⟨rfl, rfl, rfl, by decide +kernel, rfl, by decide +kernel, by decide +kernel⟩
abbrev ad_law_digits (K : PySem.W.Frag) : Addr := He.ga K "_law_digits"
abbrev s_Yard_m_check : Stmt := inClass (top 7) 9
abbrev R_Yard_m_check : List Str := ["self", "game"]
theorem sc_Yard_m_check : FnScope R_Yard_m_check ["self", "game"] (defScope s_Yard_m_check) := ⟨rfl, rfl, rfl, by decide +kernel, rfl, by decide +kernel, by decide +kernel⟩
abbrev ad_Yard_m_check (K : PySem.W.Frag) : Addr := He.ma K (He.ga K "Yard") "check"
abbrev s_Yard_m_reached : Stmt := inClass (top 7) 10
abbrev R_Yard_m_reached : List Str := ["self", "game", "done", "seen", "waiting", "follower", "option"]
theorem sc_Yard_m_reached : FnScope R_Yard_m_reached ["self", "game", "done"] (defScope s_Yard_m_reached) := ⟨rfl, rfl, rfl, by decide +kernel, rfl, by decide +kernel, by decide +kernel⟩
abbrev ad_Yard_m_reached (K : PySem.W.Frag) : Addr := He.ma K (He.ga K "Yard") "reached"
abbrev s_Yard_p_kept : Stmt := inClass (top 7) 11
abbrev R_Yard_p_kept : List Str := ["self", "lefts", "rights", "options", "option"]
theorem sc_Yard_p_kept : FnScope R_Yard_p_kept ["self", "lefts", "rights"] (defScope s_Yard_p_kept) := ⟨rfl, rfl, rfl, by decide +kernel, rfl, by decide +kernel, by decide +kernel⟩
abbrev ad_Yard_p_kept (K : PySem.W.Frag) : Addr := He.ma K (He.ga K "Yard") "_kept"
abbrev s_Yard_p_turn : Stmt := inClass (top 7) 12
abbrev R_Yard_p_turn : List Str := ["self", "game", "lefts", "option", "rights", "turned"]
theorem sc_Yard_p_turn : FnScope R_Yard_p_turn ["self", "game"] (defScope s_Yard_p_turn) := ⟨rfl, rfl, rfl, by decide +kernel, rfl, by decide +kernel, by decide +kernel⟩
abbrev ad_Yard_p_turn (K : PySem.W.Frag) : Addr := He.ma K (He.ga K "Yard") "_turn"
abbrev s_Yard_m_turned : Stmt := inClass (top 7) 8
abbrev R_Yard_m_turned : List Str := ["self", "game", "waiting", "follower"]
theorem sc_Yard_m_turned : FnScope R_Yard_m_turned ["self", "game"] (defScope s_Yard_m_turned) := ⟨rfl, rfl, rfl, by decide +kernel, rfl, by decide +kernel, by decide +kernel⟩
abbrev ad_Yard_m_turned (K : PySem.W.Frag) : Addr := He.ma K (He.ga K "Yard") "turned"
abbrev s_law_followers : Stmt := top 18
abbrev R_law_followers : List Str := ["model", "at", "found", "form", "k", "option"]
theorem sc_law_followers : FnScope R_law_followers ["model", "at"] (defScope s_law_followers) := ⟨rfl, rfl, rfl, by decide +kernel, rfl, by decide +kernel, by decide +kernel⟩
abbrev ad_law_followers (K : PySem.W.Frag) : Addr := He.ga K "_law_followers"
abbrev s_law_put : Stmt := top 12
abbrev R_law_put : List Str := ["model", "heights", "lefts", "rights", "form", "k"]
theorem sc_law_put : FnScope R_law_put ["model", "heights", "lefts", "rights"] (defScope s_law_put) := ⟨rfl, rfl, rfl, by decide +kernel, rfl, by decide +kernel, by decide +kernel⟩
abbrev ad_law_put (K : PySem.W.Frag) : Addr := He.ga K "_law_put"
abbrev s_law_is_integer : Stmt := top 11
abbrev R_law_is_integer : List Str := ["thing"]
theorem sc_law_is_integer : FnScope R_law_is_integer ["thing"] (defScope s_law_is_integer) := ⟨rfl, rfl, rfl, by decide +kernel, rfl, by decide +kernel, by decide +kernel⟩
abbrev ad_law_is_integer (K : PySem.W.Frag) : Addr := He.ga K "_law_is_integer"
abbrev s_Yard_m_size : Stmt := inClass (top 7) 1
abbrev R_Yard_m_size : List Str := ["self"]
theorem sc_Yard_m_size : FnScope R_Yard_m_size ["self"] (defScope s_Yard_m_size) := ⟨rfl, rfl, rfl, by decide +kernel, rfl, by decide +kernel, by decide +kernel⟩
abbrev ad_Yard_m_size (K : PySem.W.Frag) : Addr := propG K "Yard" "size"
abbrev s_Yard_m_game : Stmt := inClass (top 7) 2
abbrev R_Yard_m_game : List Str := ["self", "lefts", "rights", "option"]
theorem sc_Yard_m_game : FnScope R_Yard_m_game ["self", "lefts", "rights"] (defScope s_Yard_m_game) := ⟨rfl, rfl, rfl, by decide +kernel, rfl, by decide +kernel, by decide +kernel⟩
abbrev ad_Yard_m_game (K : PySem.W.Frag) : Addr := He.ma K (He.ga K "Yard") "game"
abbrev s_law_turn : Stmt := top 19
abbrev R_law_turn : List Str := ["yard", "state", "at", "model", "numbers", "told", "turned", "form", "k", "lefts", "option", "rights", "i"]
theorem sc_law_turn : FnScope R_law_turn ["yard", "state", "at"] (defScope s_law_turn) := ⟨rfl, rfl, rfl, by decide +kernel, rfl, by decide +kernel, by decide +kernel⟩
abbrev ad_law_turn (K : PySem.W.Frag) : Addr := He.ga K "_law_turn"
abbrev s_Yard_m_lefts : Stmt := inClass (top 7) 3
abbrev R_Yard_m_lefts : List Str := ["self", "game"]
theorem sc_Yard_m_lefts : FnScope R_Yard_m_lefts ["self", "game"] (defScope s_Yard_m_lefts) := ⟨rfl, rfl, rfl, by decide +kernel, rfl, by decide +kernel, by decide +kernel⟩
abbrev ad_Yard_m_lefts (K : PySem.W.Frag) : Addr := He.ma K (He.ga K "Yard") "lefts"
abbrev s_Yard_m_rights : Stmt := inClass (top 7) 4
abbrev R_Yard_m_rights : List Str := ["self", "game"]
theorem sc_Yard_m_rights : FnScope R_Yard_m_rights ["self", "game"] (defScope s_Yard_m_rights) := ⟨rfl, rfl, rfl, by decide +kernel, rfl, by decide +kernel, by decide +kernel⟩
abbrev ad_Yard_m_rights (K : PySem.W.Frag) : Addr := He.ma K (He.ga K "Yard") "rights"
abbrev s_Yard_m_options : Stmt := inClass (top 7) 5
abbrev R_Yard_m_options : List Str := ["self", "game", "side"]
theorem sc_Yard_m_options : FnScope R_Yard_m_options ["self", "game", "side"] (defScope s_Yard_m_options) := ⟨rfl, rfl, rfl, by decide +kernel, rfl, by decide +kernel, by decide +kernel⟩
abbrev ad_Yard_m_options (K : PySem.W.Frag) : Addr := He.ma K (He.ga K "Yard") "options"
abbrev s_Yard_m_height : Stmt := inClass (top 7) 6
abbrev R_Yard_m_height : List Str := ["self", "game"]
theorem sc_Yard_m_height : FnScope R_Yard_m_height ["self", "game"] (defScope s_Yard_m_height) := ⟨rfl, rfl, rfl, by decide +kernel, rfl, by decide +kernel, by decide +kernel⟩
abbrev ad_Yard_m_height (K : PySem.W.Frag) : Addr := He.ma K (He.ga K "Yard") "height"
abbrev s_Yard_m_followers : Stmt := inClass (top 7) 7
abbrev R_Yard_m_followers : List Str := ["self", "game"]
theorem sc_Yard_m_followers : FnScope R_Yard_m_followers ["self", "game"] (defScope s_Yard_m_followers) := ⟨rfl, rfl, rfl, by decide +kernel, rfl, by decide +kernel, by decide +kernel⟩
abbrev ad_Yard_m_followers (K : PySem.W.Frag) : Addr := He.ma K (He.ga K "Yard") "followers"
abbrev s_law_is_unknown : Stmt := top 16
abbrev R_law_is_unknown : List Str := ["e"]
theorem sc_law_is_unknown : FnScope R_law_is_unknown ["e"] (defScope s_law_is_unknown) := ⟨rfl, rfl, rfl, by decide +kernel, rfl, by decide +kernel, by decide +kernel⟩
abbrev ad_law_is_unknown (K : PySem.W.Frag) : Addr := He.ga K "_law_is_unknown"
abbrev s_law_refused : Stmt := top 17
abbrev R_law_refused : List Str := ["yard", "word", "good", "bad", "e"]
theorem sc_law_refused : FnScope R_law_refused ["yard", "word", "good", "bad"] (defScope s_law_refused) := ⟨rfl, rfl, rfl, by decide +kernel, rfl, by decide +kernel, by decide +kernel⟩
abbrev ad_law_refused (K : PySem.W.Frag) : Addr := He.ga K "_law_refused"
abbrev s_law_all_integers : Stmt := top 14
abbrev R_law_all_integers : List Str := ["numbers", "number"]
theorem sc_law_all_integers : FnScope R_law_all_integers ["numbers"] (defScope s_law_all_integers) := ⟨rfl, rfl, rfl, by decide +kernel, rfl, by decide +kernel, by decide +kernel⟩
abbrev ad_law_all_integers (K : PySem.W.Frag) : Addr := He.ga K "_law_all_integers"
abbrev s_law_is_list : Stmt := top 15
abbrev R_law_is_list : List Str := ["told", "due"]
theorem sc_law_is_list : FnScope R_law_is_list ["told", "due"] (defScope s_law_is_list) := ⟨rfl, rfl, rfl, by decide +kernel, rfl, by decide +kernel, by decide +kernel⟩
abbrev ad_law_is_list (K : PySem.W.Frag) : Addr := He.ga K "_law_is_list"
abbrev s_law_read : Stmt := top 20
abbrev R_law_read : List Str := ["yard", "state", "at", "model", "numbers", "rows", "dues", "k", "i", "row", "height"]
theorem sc_law_read : FnScope R_law_read ["yard", "state", "at"] (defScope s_law_read) := ⟨rfl, rfl, rfl, by decide +kernel, rfl, by decide +kernel, by decide +kernel⟩
abbrev ad_law_read (K : PySem.W.Frag) : Addr := He.ga K "_law_read"
abbrev s_law_made : Stmt := top 21
abbrev R_law_made : List Str := ["yard", "state", "drawn", "model", "numbers", "at", "number", "k"]
theorem sc_law_made : FnScope R_law_made ["yard", "state", "drawn"] (defScope s_law_made) := ⟨rfl, rfl, rfl, by decide +kernel, rfl, by decide +kernel, by decide +kernel⟩
abbrev ad_law_made (K : PySem.W.Frag) : Addr := He.ga K "_law_made"
abbrev s_law_drawn : Stmt := top 13
abbrev R_law_drawn : List Str := ["model", "heights", "digits", "most", "pool", "k", "lefts", "rights", "base"]
theorem sc_law_drawn : FnScope R_law_drawn ["model", "heights", "digits", "most"] (defScope s_law_drawn) := ⟨rfl, rfl, rfl, by decide +kernel, rfl, by decide +kernel, by decide +kernel⟩
abbrev ad_law_drawn (K : PySem.W.Frag) : Addr := He.ga K "_law_drawn"
abbrev s_law_deed : Stmt := top 22
abbrev R_law_deed : List Str := ["yard", "state", "digits", "cell", "model", "at", "kind", "far", "word", "bad"]
theorem sc_law_deed : FnScope R_law_deed ["yard", "state", "digits", "cell"] (defScope s_law_deed) := ⟨rfl, rfl, rfl, by decide +kernel, rfl, by decide +kernel, by decide +kernel⟩
abbrev ad_law_deed (K : PySem.W.Frag) : Addr := He.ga K "_law_deed"
abbrev s_law_whole : Stmt := top 23
abbrev R_law_whole : List Str := ["yard", "state", "numbers", "k", "at"]
theorem sc_law_whole : FnScope R_law_whole ["yard", "state"] (defScope s_law_whole) := ⟨rfl, rfl, rfl, by decide +kernel, rfl, by decide +kernel, by decide +kernel⟩
abbrev ad_law_whole (K : PySem.W.Frag) : Addr := He.ga K "_law_whole"
abbrev s_law : Stmt := top 24
abbrev R_law : List Str := ["script", "yards", "states", "k", "cell", "digits", "which", "i", "size"]
theorem sc_law : FnScope R_law ["script"] (defScope s_law) := ⟨rfl, rfl, rfl, by decide +kernel, rfl, by decide +kernel, by decide +kernel⟩
abbrev ad_law (K : PySem.W.Frag) : Addr := He.ga K "law"
structure Txt (K : PySem.W.Frag) (mg : Str → Option Value) : Prop where
  g_BadText : mg "BadText" = some (.ref (He.ga K "BadText"))
  g_BadValue : mg "BadValue" = some (.ref (He.ga K "BadValue"))
  g_NoMove : mg "NoMove" = some (.ref (He.ga K "NoMove"))
  g_PlayError : mg "PlayError" = some (.ref (He.ga K "PlayError"))
  g_Unknown : mg "Unknown" = some (.ref (He.ga K "Unknown"))
  g_Yard : mg "Yard" = some (.ref (He.ga K "Yard"))
  g__law_all_integers : mg "_law_all_integers" = some (.ref (He.ga K "_law_all_integers"))
  g__law_cell : mg "_law_cell" = some (.ref (He.ga K "_law_cell"))
  g__law_deed : mg "_law_deed" = some (.ref (He.ga K "_law_deed"))
  g__law_digits : mg "_law_digits" = some (.ref (He.ga K "_law_digits"))
  g__law_drawn : mg "_law_drawn" = some (.ref (He.ga K "_law_drawn"))
  g__law_followers : mg "_law_followers" = some (.ref (He.ga K "_law_followers"))
  g__law_is_integer : mg "_law_is_integer" = some (.ref (He.ga K "_law_is_integer"))
  g__law_is_list : mg "_law_is_list" = some (.ref (He.ga K "_law_is_list"))
  g__law_is_unknown : mg "_law_is_unknown" = some (.ref (He.ga K "_law_is_unknown"))
  g__law_made : mg "_law_made" = some (.ref (He.ga K "_law_made"))
  g__law_put : mg "_law_put" = some (.ref (He.ga K "_law_put"))
  g__law_read : mg "_law_read" = some (.ref (He.ga K "_law_read"))
  g__law_refused : mg "_law_refused" = some (.ref (He.ga K "_law_refused"))
  g__law_turn : mg "_law_turn" = some (.ref (He.ga K "_law_turn"))
  g__law_whole : mg "_law_whole" = some (.ref (He.ga K "_law_whole"))
  g_law : mg "law" = some (.ref (He.ga K "law"))
  z_ValueError : mg "ValueError" = none
  z_bool : mg "bool" = none
  z_int : mg "int" = none
  z_isinstance : mg "isinstance" = none
  z_len : mg "len" = none
  z_list : mg "list" = none
  z_max : mg "max" = none
  z_min : mg "min" = none
  z_range : mg "range" = none
  z_set : mg "set" = none
  z_sorted : mg "sorted" = none
  z_tuple : mg "tuple" = none
  cl_Yard : Cls K (He.ga K "Yard")
  x_Unknown : PySem.W.excIn K (He.ga K "Unknown") He.veBase "ValueError.__new__" = true ∧ PySem.W.keepIn K (.ref (He.ga K "Unknown")) = true ∧ PySem.W.subIn K (.ref (He.ga K "Unknown")) (.type "BaseException") = some true ∧ PySem.W.typeIn K (.ref (He.ga K "Unknown")) = some (.type "type")
  xc_Unknown : ExcC K (He.ga K "Unknown")
  em_Unknown_PlayError : PySem.W.exmOne K (.ref (He.ga K "Unknown")) (.ref (He.ga K "PlayError")) = some true
  ki_Unknown_BadText : PySem.W.kitOne K (.ref (He.ga K "Unknown")) (.ref (He.ga K "BadText")) = some false
  ki_Unknown_BadValue : PySem.W.kitOne K (.ref (He.ga K "Unknown")) (.ref (He.ga K "BadValue")) = some false
  ki_Unknown_NoMove : PySem.W.kitOne K (.ref (He.ga K "Unknown")) (.ref (He.ga K "NoMove")) = some false
  ki_Unknown_Unknown : PySem.W.kitOne K (.ref (He.ga K "Unknown")) (.ref (He.ga K "Unknown")) = some true
  ki_Unknown_ValueError : PySem.W.kitOne K (.ref (He.ga K "Unknown")) (.type "ValueError") = some true
  mt_Yard__kept : Meth K (He.ga K "Yard") "_kept" (He.ma K (He.ga K "Yard") "_kept")
  mt_Yard__turn : Meth K (He.ga K "Yard") "_turn" (He.ma K (He.ga K "Yard") "_turn")
  mt_Yard_check : Meth K (He.ga K "Yard") "check" (He.ma K (He.ga K "Yard") "check")
  mt_Yard_followers : Meth K (He.ga K "Yard") "followers" (He.ma K (He.ga K "Yard") "followers")
  mt_Yard_game : Meth K (He.ga K "Yard") "game" (He.ma K (He.ga K "Yard") "game")
  mt_Yard_height : Meth K (He.ga K "Yard") "height" (He.ma K (He.ga K "Yard") "height")
  mt_Yard_lefts : Meth K (He.ga K "Yard") "lefts" (He.ma K (He.ga K "Yard") "lefts")
  mt_Yard_options : Meth K (He.ga K "Yard") "options" (He.ma K (He.ga K "Yard") "options")
  mt_Yard_reached : Meth K (He.ga K "Yard") "reached" (He.ma K (He.ga K "Yard") "reached")
  mt_Yard_rights : Meth K (He.ga K "Yard") "rights" (He.ma K (He.ga K "Yard") "rights")
  mt_Yard_turned : Meth K (He.ga K "Yard") "turned" (He.ma K (He.ga K "Yard") "turned")
  mk_Yard : Mk K (He.ga K "Yard") (He.ma K (He.ga K "Yard") "__init__")
  na_Yard__heights : NoAttr K (He.ga K "Yard") "_heights"
  na_Yard__lefts : NoAttr K (He.ga K "Yard") "_lefts"
  na_Yard__numbers : NoAttr K (He.ga K "Yard") "_numbers"
  na_Yard__rights : NoAttr K (He.ga K "Yard") "_rights"
  na_Yard__turned : NoAttr K (He.ga K "Yard") "_turned"
  pr_Yard_size : PropOf K (He.ga K "Yard") "size" (He.ma K (He.ga K "Yard") "size") (propG K "Yard" "size")
  d_Yard_d_init : ∃ fd, FunD K "__init__" "Yard.__init__" (defArgs s_Yard_d_init) (defBody s_Yard_d_init) (defScope s_Yard_d_init) [] [] (ad_Yard_d_init K) fd
  d_law_cell : ∃ fd, FunD K "_law_cell" "_law_cell" (defArgs s_law_cell) (defBody s_law_cell) (defScope s_law_cell) [] [] (ad_law_cell K) fd
  d_law_digits : ∃ fd, FunD K "_law_digits" "_law_digits" (defArgs s_law_digits) (defBody s_law_digits) (defScope s_law_digits) [] [] (ad_law_digits K) fd
  d_Yard_m_check : ∃ fd, FunD K "check" "Yard.check" (defArgs s_Yard_m_check) (defBody s_Yard_m_check) (defScope s_Yard_m_check) [] [] (ad_Yard_m_check K) fd
  d_Yard_m_reached : ∃ fd, FunD K "reached" "Yard.reached" (defArgs s_Yard_m_reached) (defBody s_Yard_m_reached) (defScope s_Yard_m_reached) [] [] (ad_Yard_m_reached K) fd
  d_Yard_p_kept : ∃ fd, FunD K "_kept" "Yard._kept" (defArgs s_Yard_p_kept) (defBody s_Yard_p_kept) (defScope s_Yard_p_kept) [] [] (ad_Yard_p_kept K) fd
  d_Yard_p_turn : ∃ fd, FunD K "_turn" "Yard._turn" (defArgs s_Yard_p_turn) (defBody s_Yard_p_turn) (defScope s_Yard_p_turn) [] [] (ad_Yard_p_turn K) fd
  d_Yard_m_turned : ∃ fd, FunD K "turned" "Yard.turned" (defArgs s_Yard_m_turned) (defBody s_Yard_m_turned) (defScope s_Yard_m_turned) [] [] (ad_Yard_m_turned K) fd
  d_law_followers : ∃ fd, FunD K "_law_followers" "_law_followers" (defArgs s_law_followers) (defBody s_law_followers) (defScope s_law_followers) [] [] (ad_law_followers K) fd
  d_law_put : ∃ fd, FunD K "_law_put" "_law_put" (defArgs s_law_put) (defBody s_law_put) (defScope s_law_put) [] [] (ad_law_put K) fd
  d_law_is_integer : ∃ fd, FunD K "_law_is_integer" "_law_is_integer" (defArgs s_law_is_integer) (defBody s_law_is_integer) (defScope s_law_is_integer) [] [] (ad_law_is_integer K) fd
  d_Yard_m_size : ∃ fd, FunD K "size" "Yard.size" (defArgs s_Yard_m_size) (defBody s_Yard_m_size) (defScope s_Yard_m_size) [] [] (ad_Yard_m_size K) fd
  d_Yard_m_game : ∃ fd, FunD K "game" "Yard.game" (defArgs s_Yard_m_game) (defBody s_Yard_m_game) (defScope s_Yard_m_game) [] [] (ad_Yard_m_game K) fd
  d_law_turn : ∃ fd, FunD K "_law_turn" "_law_turn" (defArgs s_law_turn) (defBody s_law_turn) (defScope s_law_turn) [] [] (ad_law_turn K) fd
  d_Yard_m_lefts : ∃ fd, FunD K "lefts" "Yard.lefts" (defArgs s_Yard_m_lefts) (defBody s_Yard_m_lefts) (defScope s_Yard_m_lefts) [] [] (ad_Yard_m_lefts K) fd
  d_Yard_m_rights : ∃ fd, FunD K "rights" "Yard.rights" (defArgs s_Yard_m_rights) (defBody s_Yard_m_rights) (defScope s_Yard_m_rights) [] [] (ad_Yard_m_rights K) fd
  d_Yard_m_options : ∃ fd, FunD K "options" "Yard.options" (defArgs s_Yard_m_options) (defBody s_Yard_m_options) (defScope s_Yard_m_options) [] [] (ad_Yard_m_options K) fd
  d_Yard_m_height : ∃ fd, FunD K "height" "Yard.height" (defArgs s_Yard_m_height) (defBody s_Yard_m_height) (defScope s_Yard_m_height) [] [] (ad_Yard_m_height K) fd
  d_Yard_m_followers : ∃ fd, FunD K "followers" "Yard.followers" (defArgs s_Yard_m_followers) (defBody s_Yard_m_followers) (defScope s_Yard_m_followers) [] [] (ad_Yard_m_followers K) fd
  d_law_is_unknown : ∃ fd, FunD K "_law_is_unknown" "_law_is_unknown" (defArgs s_law_is_unknown) (defBody s_law_is_unknown) (defScope s_law_is_unknown) [] [] (ad_law_is_unknown K) fd
  d_law_refused : ∃ fd, FunD K "_law_refused" "_law_refused" (defArgs s_law_refused) (defBody s_law_refused) (defScope s_law_refused) [] [] (ad_law_refused K) fd
  d_law_all_integers : ∃ fd, FunD K "_law_all_integers" "_law_all_integers" (defArgs s_law_all_integers) (defBody s_law_all_integers) (defScope s_law_all_integers) [] [] (ad_law_all_integers K) fd
  d_law_is_list : ∃ fd, FunD K "_law_is_list" "_law_is_list" (defArgs s_law_is_list) (defBody s_law_is_list) (defScope s_law_is_list) [] [] (ad_law_is_list K) fd
  d_law_read : ∃ fd, FunD K "_law_read" "_law_read" (defArgs s_law_read) (defBody s_law_read) (defScope s_law_read) [] [] (ad_law_read K) fd
  d_law_made : ∃ fd, FunD K "_law_made" "_law_made" (defArgs s_law_made) (defBody s_law_made) (defScope s_law_made) [] [] (ad_law_made K) fd
  d_law_drawn : ∃ fd, FunD K "_law_drawn" "_law_drawn" (defArgs s_law_drawn) (defBody s_law_drawn) (defScope s_law_drawn) [] [] (ad_law_drawn K) fd
  d_law_deed : ∃ fd, FunD K "_law_deed" "_law_deed" (defArgs s_law_deed) (defBody s_law_deed) (defScope s_law_deed) [] [] (ad_law_deed K) fd
  d_law_whole : ∃ fd, FunD K "_law_whole" "_law_whole" (defArgs s_law_whole) (defBody s_law_whole) (defScope s_law_whole) [] [] (ad_law_whole K) fd
  d_law : ∃ fd, FunD K "law" "law" (defArgs s_law) (defBody s_law) (defScope s_law) [] [] (ad_law K) fd
theorem Txt.FYard {K : PySem.W.Frag} {mg : Str → Option Value} (T : Txt K mg) : FYard K := ⟨T.cl_Yard, T.na_Yard__lefts, T.na_Yard__rights, T.na_Yard__heights, T.na_Yard__numbers, T.na_Yard__turned⟩
theorem Txt.FUnkE {K : PySem.W.Frag} {mg : Str → Option Value} (T : Txt K mg) : FUnkE K := ⟨T.ki_Unknown_BadText, T.ki_Unknown_BadValue, T.ki_Unknown_NoMove, T.ki_Unknown_Unknown, T.ki_Unknown_ValueError⟩
theorem Txt.FPlE {K : PySem.W.Frag} {mg : Str → Option Value} (T : Txt K mg) : FPlE K := ⟨T.em_Unknown_PlayError⟩
abbrev O_Yard_d_init (P : Program) (w : World) (K : PySem.W.Frag) (mg : Str → Option Value) (base : Heap) : Prop := DefOk P w K mg base CX0 1 "__init__" "Yard.__init__" s_Yard_d_init [] (ad_Yard_d_init K) ["self"] (sp_Yard_d_init P w K)
abbrev O_law_cell (P : Program) (w : World) (K : PySem.W.Frag) (mg : Str → Option Value) (base : Heap) : Prop := DefOk P w K mg base CX0 1 "_law_cell" "_law_cell" s_law_cell [] (ad_law_cell K) ["script", "k"] (sp_law_cell K)
abbrev O_law_digits (P : Program) (w : World) (K : PySem.W.Frag) (mg : Str → Option Value) (base : Heap) : Prop := DefOk P w K mg base CX0 1 "_law_digits" "_law_digits" s_law_digits [] (ad_law_digits K) ["cell", "count"] (sp_law_digits K)
abbrev O_Yard_m_check (P : Program) (w : World) (K : PySem.W.Frag) (mg : Str → Option Value) (base : Heap) : Prop := DefOk P w K mg base (L2.CX P w) 1 "check" "Yard.check" s_Yard_m_check [] (ad_Yard_m_check K) ["self", "game"] (sp_Yard_m_check P w K)
abbrev O_Yard_m_reached (P : Program) (w : World) (K : PySem.W.Frag) (mg : Str → Option Value) (base : Heap) : Prop := DefOk P w K mg base (L2.CX P w) 2 "reached" "Yard.reached" s_Yard_m_reached [] (ad_Yard_m_reached K) ["self", "game", "done"] (sp_Yard_m_reached P w K)
abbrev O_Yard_p_kept (P : Program) (w : World) (K : PySem.W.Frag) (mg : Str → Option Value) (base : Heap) : Prop := DefOk P w K mg base CX0 1 "_kept" "Yard._kept" s_Yard_p_kept [] (ad_Yard_p_kept K) ["self", "lefts", "rights"] (sp_Yard_p_kept P w K)
abbrev O_Yard_p_turn (P : Program) (w : World) (K : PySem.W.Frag) (mg : Str → Option Value) (base : Heap) : Prop := DefOk P w K mg base CX0 2 "_turn" "Yard._turn" s_Yard_p_turn [] (ad_Yard_p_turn K) ["self", "game"] (sp_Yard_p_turn P w K)
abbrev O_Yard_m_turned (P : Program) (w : World) (K : PySem.W.Frag) (mg : Str → Option Value) (base : Heap) : Prop := DefOk P w K mg base (L2.CX P w) 3 "turned" "Yard.turned" s_Yard_m_turned [] (ad_Yard_m_turned K) ["self", "game"] (sp_Yard_m_turned P w K)
abbrev O_law_followers (P : Program) (w : World) (K : PySem.W.Frag) (mg : Str → Option Value) (base : Heap) : Prop := DefOk P w K mg base CX0 1 "_law_followers" "_law_followers" s_law_followers [] (ad_law_followers K) ["model", "at"] (sp_law_followers K)
abbrev O_law_put (P : Program) (w : World) (K : PySem.W.Frag) (mg : Str → Option Value) (base : Heap) : Prop := DefOk P w K mg base CX0 1 "_law_put" "_law_put" s_law_put [] (ad_law_put K) ["model", "heights", "lefts", "rights"] (sp_law_put K)
abbrev O_law_is_integer (P : Program) (w : World) (K : PySem.W.Frag) (mg : Str → Option Value) (base : Heap) : Prop := DefOk P w K mg base CX0 1 "_law_is_integer" "_law_is_integer" s_law_is_integer [] (ad_law_is_integer K) ["thing"] (sp_law_is_integer K)
abbrev O_Yard_m_size (P : Program) (w : World) (K : PySem.W.Frag) (mg : Str → Option Value) (base : Heap) : Prop := DefOk P w K mg base CX0 1 "size" "Yard.size" s_Yard_m_size [] (ad_Yard_m_size K) ["self"] (sp_Yard_m_size K)
abbrev O_Yard_m_game (P : Program) (w : World) (K : PySem.W.Frag) (mg : Str → Option Value) (base : Heap) : Prop := DefOk P w K mg base (L2.CX P w) 2 "game" "Yard.game" s_Yard_m_game [] (ad_Yard_m_game K) ["self", "lefts", "rights"] (sp_Yard_m_game P w K)
abbrev O_law_turn (P : Program) (w : World) (K : PySem.W.Frag) (mg : Str → Option Value) (base : Heap) : Prop := DefOk P w K mg base CX0 4 "_law_turn" "_law_turn" s_law_turn [] (ad_law_turn K) ["yard", "state", "at"] (sp_law_turn P w K)
abbrev O_Yard_m_lefts (P : Program) (w : World) (K : PySem.W.Frag) (mg : Str → Option Value) (base : Heap) : Prop := DefOk P w K mg base (L2.CX P w) 2 "lefts" "Yard.lefts" s_Yard_m_lefts [] (ad_Yard_m_lefts K) ["self", "game"] (sp_Yard_m_lefts P w K)
abbrev O_Yard_m_rights (P : Program) (w : World) (K : PySem.W.Frag) (mg : Str → Option Value) (base : Heap) : Prop := DefOk P w K mg base (L2.CX P w) 2 "rights" "Yard.rights" s_Yard_m_rights [] (ad_Yard_m_rights K) ["self", "game"] (sp_Yard_m_rights P w K)
abbrev O_Yard_m_options (P : Program) (w : World) (K : PySem.W.Frag) (mg : Str → Option Value) (base : Heap) : Prop := DefOk P w K mg base (L2.CX P w) 3 "options" "Yard.options" s_Yard_m_options [] (ad_Yard_m_options K) ["self", "game", "side"] (sp_Yard_m_options P w K)
abbrev O_Yard_m_height (P : Program) (w : World) (K : PySem.W.Frag) (mg : Str → Option Value) (base : Heap) : Prop := DefOk P w K mg base (L2.CX P w) 2 "height" "Yard.height" s_Yard_m_height [] (ad_Yard_m_height K) ["self", "game"] (sp_Yard_m_height P w K)
abbrev O_Yard_m_followers (P : Program) (w : World) (K : PySem.W.Frag) (mg : Str → Option Value) (base : Heap) : Prop := DefOk P w K mg base (L2.CX P w) 3 "followers" "Yard.followers" s_Yard_m_followers [] (ad_Yard_m_followers K) ["self", "game"] (sp_Yard_m_followers P w K)
abbrev O_law_is_unknown (P : Program) (w : World) (K : PySem.W.Frag) (mg : Str → Option Value) (base : Heap) : Prop := DefE P w K mg base CX0 1 "_law_is_unknown" "_law_is_unknown" s_law_is_unknown [] (ad_law_is_unknown K) ["e"] (He.ga K "Unknown") (sp_law_is_unknown K)
abbrev O_law_refused (P : Program) (w : World) (K : PySem.W.Frag) (mg : Str → Option Value) (base : Heap) : Prop := DefOk P w K mg base CX0 4 "_law_refused" "_law_refused" s_law_refused [] (ad_law_refused K) ["yard", "word", "good", "bad"] (sp_law_refused P w K)
abbrev O_law_all_integers (P : Program) (w : World) (K : PySem.W.Frag) (mg : Str → Option Value) (base : Heap) : Prop := DefOk P w K mg base CX0 2 "_law_all_integers" "_law_all_integers" s_law_all_integers [] (ad_law_all_integers K) ["numbers"] (sp_law_all_integers K)
abbrev O_law_is_list (P : Program) (w : World) (K : PySem.W.Frag) (mg : Str → Option Value) (base : Heap) : Prop := DefOk P w K mg base CX0 3 "_law_is_list" "_law_is_list" s_law_is_list [] (ad_law_is_list K) ["told", "due"] (sp_law_is_list K)
abbrev O_law_read (P : Program) (w : World) (K : PySem.W.Frag) (mg : Str → Option Value) (base : Heap) : Prop := DefOk P w K mg base CX0 4 "_law_read" "_law_read" s_law_read [] (ad_law_read K) ["yard", "state", "at"] (sp_law_read P w K)
abbrev O_law_made (P : Program) (w : World) (K : PySem.W.Frag) (mg : Str → Option Value) (base : Heap) : Prop := DefOk P w K mg base CX0 3 "_law_made" "_law_made" s_law_made [] (ad_law_made K) ["yard", "state", "drawn"] (sp_law_made P w K)
abbrev O_law_drawn (P : Program) (w : World) (K : PySem.W.Frag) (mg : Str → Option Value) (base : Heap) : Prop := DefOk P w K mg base CX0 1 "_law_drawn" "_law_drawn" s_law_drawn [] (ad_law_drawn K) ["model", "heights", "digits", "most"] (sp_law_drawn K)
abbrev O_law_deed (P : Program) (w : World) (K : PySem.W.Frag) (mg : Str → Option Value) (base : Heap) : Prop := DefOk P w K mg base CX0 5 "_law_deed" "_law_deed" s_law_deed [] (ad_law_deed K) ["yard", "state", "digits", "cell"] (sp_law_deed P w K)
abbrev O_law_whole (P : Program) (w : World) (K : PySem.W.Frag) (mg : Str → Option Value) (base : Heap) : Prop := DefOk P w K mg base CX0 5 "_law_whole" "_law_whole" s_law_whole [] (ad_law_whole K) ["yard", "state"] (sp_law_whole P w K)
abbrev O_law (P : Program) (w : World) (K : PySem.W.Frag) (mg : Str → Option Value) (base : Heap) : Prop := DefOk P w K mg base CX0 6 "law" "law" s_law [] (ad_law K) ["script"] (sp_law P w K)
theorem ok_Yard_d_init {P : Program} {w : World} {K : PySem.W.Frag} {mg : Str → Option Value} {base : Heap} (T : Txt K mg)  : O_Yard_d_init P w K mg base := by
  obtain ⟨fd, X⟩ := T.d_Yard_d_init
  refine ⟨fd, X, X.ok sc_Yard_d_init (fun vs H Q E h => len_Yard_d_init h) (fun cdv A outer s H vs Q E hr h => ⟨t_Yard_d_init P w K E, PSs.nox ?_, pure_Yard_d_init T.FYard vs H Q E h⟩)⟩
  exact (pss_cons (ps_fld (pv 0) (pe_lst (pa_cons (pe_tup pa_nil) pa_nil)) rfl)
      (pss_cons (ps_fld (pv 0) (pe_lst (pa_cons (pe_tup pa_nil) pa_nil)) rfl)
      (pss_cons (ps_fld (pv 0) (pe_lst (pa_cons pe_int pa_nil)) rfl)
      (pss_cons (ps_fld (pv 0) (pe_ndisp (hu9 hr) (pe_tup (pa_cons (pe_tup pa_nil) (pa_cons (pe_tup pa_nil) pa_nil))) pe_int) rfl)
      (pss_one (ps_fld (pv 0) (pe_disp (pps_cons pe_int pe_int pps_nil) (by rfl) (by rfl) (fun z => by cases z) (by decide)) rfl))))))
theorem ok_law_cell {P : Program} {w : World} {K : PySem.W.Frag} {mg : Str → Option Value} {base : Heap} (T : Txt K mg)  : O_law_cell P w K mg base := by
  obtain ⟨fd, X⟩ := T.d_law_cell
  refine ⟨fd, X, X.ok sc_law_cell (fun vs H Q E h => len_law_cell h) (fun cdv A outer s H vs Q E hr h => ⟨t_law_cell K E, PSs.nox ?_, pure_law_cell vs H Q E h⟩)⟩
  exact (pss_cons (ps_if (pt_cmpR op_lt (pv 1) (pe_callB cr_lenQ rfl T.z_len (by decide +kernel) (pa_cons (pv 0) pa_nil)) (nomark _)) (pss_one (ps_ret (pe_ix ix_list (pv 0) (pv 1) (fun _ _ => rfl)))) pss_nil)
      (pss_cons (ps_set (i := 2) sc_law_cell.nd rfl (Or.inl rfl) (pe_op op_add (pe_op op_mul pe_int (pv 1)) pe_int))
      (pss_cons (ps_for PassesOwn.never rfl (pi_list (pv 0)) (pg_name (i := 3) sc_law_cell.nd rfl (Or.inl rfl))
      (pss_one (ps_set (i := 2) sc_law_cell.nd rfl (Or.inl rfl) (pe_op op_mod (pe_callTy cr_intI rfl T.z_int (by decide +kernel) (pa_cons (pe_op op_add (pe_op op_mul (pv 2) pe_int) (pv 3)) pa_nil)) pe_int))))
      (pss_one (ps_ret (pv 2))))))
theorem ok_law_digits {P : Program} {w : World} {K : PySem.W.Frag} {mg : Str → Option Value} {base : Heap} (T : Txt K mg)  : O_law_digits P w K mg base := by
  obtain ⟨fd, X⟩ := T.d_law_digits
  refine ⟨fd, X, X.ok sc_law_digits (fun vs H Q E h => len_law_digits h) (fun cdv A outer s H vs Q E hr h => ⟨t_law_digits K E, PSs.nox ?_, pure_law_digits vs H Q E h⟩)⟩
  exact (pss_cons (ps_set (i := 2) sc_law_digits.nd rfl (Or.inl rfl) (pe_lst pa_nil))
      (pss_cons (ps_if (pt_cmpR op_ge (pv 0) (pe_op op_pow pe_int pe_int) (nomark _)) (pss_cons (ps_for PassesOwn.never rfl (pi_range1 rfl T.z_range (pa_cons (pv 1) pa_nil)) (pg_name (i := 3) sc_law_digits.nd rfl (Or.inl rfl))
      (pss_cons (ps_expr (pe_bm PySem.F.plainAttrs_list PySem.F.slot_list_append PySem.F.type_list_append mt_append (pv 2) (pa_cons (pe_op op_mod (pe_callTy cr_intI rfl T.z_int (by decide +kernel) (pa_cons (pv 0) pa_nil)) pe_int) pa_nil)))
      (pss_one (ps_set (i := 0) sc_law_digits.nd rfl (Or.inl rfl) (pe_op op_fdiv (pv 0) pe_int)))))
      (pss_one (ps_ret (pv 2)))) pss_nil)
      (pss_cons (ps_set (i := 4) sc_law_digits.nd rfl (Or.inl rfl) (pe_op op_mod (pe_callTy cr_intI rfl T.z_int (by decide +kernel) (pa_cons (pe_op op_add (pe_op op_mul (pv 0) pe_int) pe_int) pa_nil)) pe_int))
      (pss_cons (ps_for PassesOwn.never rfl (pi_range1 rfl T.z_range (pa_cons (pv 1) pa_nil)) (pg_name (i := 3) sc_law_digits.nd rfl (Or.inl rfl))
      (pss_cons (ps_set (i := 4) sc_law_digits.nd rfl (Or.inl rfl) (pe_op op_mod (pe_callTy cr_intI rfl T.z_int (by decide +kernel) (pa_cons (pe_op op_add (pe_op op_add (pe_op op_mul (pv 4) pe_int) (pe_op op_mul pe_int (pv 3))) pe_int) pa_nil)) pe_int))
      (pss_one (ps_expr (pe_bm PySem.F.plainAttrs_list PySem.F.slot_list_append PySem.F.type_list_append mt_append (pv 2) (pa_cons (pe_op op_mod (pe_callTy cr_intI rfl T.z_int (by decide +kernel) (pa_cons (pe_op op_fdiv (pv 4) pe_int) pa_nil)) pe_int) pa_nil))))))
      (pss_one (ps_ret (pv 2)))))))
theorem ok_Yard_m_check {P : Program} {w : World} {K : PySem.W.Frag} {mg : Str → Option Value} {base : Heap} (T : Txt K mg)  : O_Yard_m_check P w K mg base := by
  obtain ⟨fd, X⟩ := T.d_Yard_m_check
  refine ⟨fd, X, X.ok sc_Yard_m_check (fun vs H Q E h => len_Yard_m_check h) (fun cdv A outer s H vs Q E hr h => ⟨t_Yard_m_check P w K E, ?_, pure_Yard_m_check T.FYard vs H Q E h⟩)⟩
  exact (pss_one (ps_if (pt_not (pt_chain op_le op_lt pe_int (pv 1) (pe_callB cr_lenQ rfl T.z_len (by decide +kernel) (pa_cons (pe_fld (pv 0) rfl) pa_nil)))) (pss_one (ps_raise rfl (takes_of rfl rfl rfl rfl) (pmk_own PySem.F.excBase_ValueError T.x_Unknown.1 T.g_Unknown T.x_Unknown.2.1 (raises_own T.x_Unknown.2.2.1 T.x_Unknown.2.2.2) (by exact rfl)))) pss_nil))
theorem ok_Yard_m_reached {P : Program} {w : World} {K : PySem.W.Frag} {mg : Str → Option Value} {base : Heap} (T : Txt K mg) (D_Yard_m_check : O_Yard_m_check P w K mg base) : O_Yard_m_reached P w K mg base := by
  obtain ⟨fd_Yard_m_check, X_Yard_m_check, G_Yard_m_check⟩ := D_Yard_m_check.ex
  have K_Yard_m_check := X_Yard_m_check.kp
  have B_Yard_m_check := X_Yard_m_check.bindsN (ps := ["self", "game"]) fun _ _ _ _ _ _ us hl => match us, hl with | [_, _], _ => rfl
  have V_Yard_m_check : Vals [] [] := .nil
  obtain ⟨fd, X⟩ := T.d_Yard_m_reached
  refine ⟨fd, X, okC X sc_Yard_m_reached (fun vs H Q E h => len_Yard_m_reached h) (fun cdv hcode A outer s H vs Q E hr h => ⟨t_Yard_m_reached P w K E, ?_, pure_Yard_m_reached T.FYard vs H Q E h⟩)⟩
  exact (pss_cons (ps_expr (pe_meth (pv 0) T.cl_Yard T.mt_Yard_check G_Yard_m_check (hr.mono (by decide)) B_Yard_m_check .nil (passes_call (takes_of rfl rfl rfl rfl) fun _ _ _ _ z => z) (pa_cons (pv 1) pa_nil)))
      (pss_cons (ps_if (pt_cmp (pc_din (hu_of hr) (pv 1) (pv 2))) (pss_one (ps_ret (pe_lst pa_nil))) pss_nil)
      (pss_cons (ps_set (i := 3) sc_Yard_m_reached.nd rfl (Or.inl rfl) (pe_set1 hcode (pv 1)))
      (pss_cons (ps_set (i := 4) sc_Yard_m_reached.nd rfl (Or.inl rfl) (pe_lst (pa_cons (pv 1) pa_nil)))
      (pss_cons (ps_while (passes_of rfl) (pt_truth (pv 4) (by intro _; rfl)) (pss_cons (ps_set (i := 5) sc_Yard_m_reached.nd rfl (Or.inl rfl) (pe_bm0 PySem.F.plainAttrs_list PySem.F.slot_list_pop PySem.F.type_list_pop mt_pop (pv 4)))
      (pss_one (ps_for (passes_of rfl) rfl (pi_tup (pe_op op_catA (pe_ix ix_list (pe_fld (pv 0) rfl) (pv 5) (fun _ _ => rfl)) (pe_ix ix_list (pe_fld (pv 0) rfl) (pv 5) (fun _ _ => rfl)))) (pg_name (i := 6) sc_Yard_m_reached.nd rfl (Or.inl rfl))
      (pss_one (ps_if (PW.pt (pw_and (pt_cmpR or_snotin (pv 6) (pv 3) (by rfl)) (pw_and1 (pt_cmp (pc_dnotin (hu_of hr) (pv 6) (pv 2)))))) (pss_cons (ps_expr (pe_sadd (pv 3) (pa_cons (pv 6) pa_nil)))
      (pss_one (ps_expr (pe_bm PySem.F.plainAttrs_list PySem.F.slot_list_append PySem.F.type_list_append mt_append (pv 4) (pa_cons (pv 6) pa_nil))))) pss_nil))))))
      (pss_one (ps_ret (pe_callB (cr_sortX rfl) rfl T.z_sorted (by decide +kernel) (pa_cons (pv 3) pa_nil)))))))))
theorem ok_Yard_p_kept {P : Program} {w : World} {K : PySem.W.Frag} {mg : Str → Option Value} {base : Heap} (T : Txt K mg)  : O_Yard_p_kept P w K mg base := by
  obtain ⟨fd, X⟩ := T.d_Yard_p_kept
  refine ⟨fd, X, X.ok sc_Yard_p_kept (fun vs H Q E h => len_Yard_p_kept h) (fun cdv A outer s H vs Q E hr h => ⟨t_Yard_p_kept P w K E, PSs.nox ?_, pure_Yard_p_kept T.FYard vs H Q E h⟩)⟩
  exact (pss_cons (ps_set (i := 3) sc_Yard_p_kept.nd rfl (Or.inl rfl) (pe_tup (pa_cons (pv 1) (pa_cons (pv 2) pa_nil))))
      (Evl.pss_cut (ps_if (pt_cmp (pc_nnot (hu9 hr) (pv 3) (pe_fld (pv 0) rfl))) (pss_cons (ps_nput (hu9 hr) (pe_fld (pv 0) rfl) (pv 3) (pe_callB cr_lenQ rfl T.z_len (by decide +kernel) (pa_cons (pe_fld (pv 0) rfl) pa_nil)) rfl)
      (pss_cons (ps_expr (pe_bm PySem.F.plainAttrs_list PySem.F.slot_list_append PySem.F.type_list_append mt_append (pe_fld (pv 0) rfl) (pa_cons (pe_op op_add pe_int (pe_callB (cr_max rfl) rfl T.z_max (by decide +kernel) (pa_cons (pe_lc (own := [("option", 4)]) (g := (gName 4)) (tt := tYes) rfl sc_Yard_p_kept.nd (pi_tup (pe_op op_catA (pv 1) (pv 2))) (blkOk_by (N := R_Yard_p_kept) (sc := defScope s_Yard_p_kept) (by decide +kernel)) (fun _ _ _ _ _ => (pg_name (i := 4) sc_Yard_p_kept.nd rfl (Or.inl rfl))) (fun _ _ _ _ _ => pts_nil) (fun _ _ _ _ _ => (pe_ix ix_list (pe_fld (pv 0) rfl) (pv 4) (fun _ _ => rfl)))) pa_nil))) pa_nil)))
      (pss_cons (ps_expr (pe_bm PySem.F.plainAttrs_list PySem.F.slot_list_append PySem.F.type_list_append mt_append (pe_fld (pv 0) rfl) (pa_cons (pv 1) pa_nil)))
      (pss_one (ps_expr (pe_bm PySem.F.plainAttrs_list PySem.F.slot_list_append PySem.F.type_list_append mt_append (pe_fld (pv 0) rfl) (pa_cons (pv 2) pa_nil))))))) pss_nil)
      (pss_one (ps_ret (pe_nget (hu9 hr) (pe_fld (pv 0) rfl) (pv 3) (fun _ _ => rfl))))))
theorem ok_Yard_p_turn {P : Program} {w : World} {K : PySem.W.Frag} {mg : Str → Option Value} {base : Heap} (T : Txt K mg) (D_Yard_p_kept : O_Yard_p_kept P w K mg base) : O_Yard_p_turn P w K mg base := by
  obtain ⟨fd_Yard_p_kept, X_Yard_p_kept, G_Yard_p_kept⟩ := D_Yard_p_kept.ex
  have K_Yard_p_kept := X_Yard_p_kept.kp
  have B_Yard_p_kept := X_Yard_p_kept.bindsN (ps := ["self", "lefts", "rights"]) fun _ _ _ _ _ _ us hl => match us, hl with | [_, _, _], _ => rfl
  have V_Yard_p_kept : Vals [] [] := .nil
  obtain ⟨fd, X⟩ := T.d_Yard_p_turn
  refine ⟨fd, X, X.ok sc_Yard_p_turn (fun vs H Q E h => len_Yard_p_turn h) (fun cdv A outer s H vs Q E hr h => ⟨t_Yard_p_turn P w K E, PSs.nox ?_, pure_Yard_p_turn T.FYard vs H Q E h⟩)⟩
  exact (pss_cons (ps_setLc (i := 2) (own := [("option", 3)]) (g := (gName 3)) (tt := tYes) rfl sc_Yard_p_turn.nd rfl rfl (sw_true rfl rfl rfl (by decide +kernel)) (pi_tup (pe_ix ix_list (pe_fld (pv 0) rfl) (pv 1) (fun _ _ => rfl))) (blkOk_by (N := R_Yard_p_turn) (sc := defScope s_Yard_p_turn) (by decide +kernel)) (fun _ _ _ _ _ => (pg_name (i := 3) sc_Yard_p_turn.nd rfl (Or.inl rfl))) (fun _ _ _ _ _ => pts_nil) (fun _ _ _ _ _ => (pe_dget (hu_of hr) (pe_fld (pv 0) rfl) (pv 3) (fun _ _ => rfl))))
      (pss_cons (ps_setLc (i := 4) (own := [("option", 3)]) (g := (gName 3)) (tt := tYes) rfl sc_Yard_p_turn.nd rfl rfl (sw_true rfl rfl rfl (by decide +kernel)) (pi_tup (pe_ix ix_list (pe_fld (pv 0) rfl) (pv 1) (fun _ _ => rfl))) (blkOk_by (N := R_Yard_p_turn) (sc := defScope s_Yard_p_turn) (by decide +kernel)) (fun _ _ _ _ _ => (pg_name (i := 3) sc_Yard_p_turn.nd rfl (Or.inl rfl))) (fun _ _ _ _ _ => pts_nil) (fun _ _ _ _ _ => (pe_dget (hu_of hr) (pe_fld (pv 0) rfl) (pv 3) (fun _ _ => rfl))))
      (pss_cons (ps_set (i := 5) sc_Yard_p_turn.nd rfl (Or.inl rfl) (pe_meth (pv 0) T.cl_Yard T.mt_Yard__kept G_Yard_p_kept (hr.mono (by decide)) B_Yard_p_kept .nil pass0 (pa_cons (pe_callTy cr_tupL rfl T.z_tuple (by decide +kernel) (pa_cons (pe_callB cr_sortedI rfl T.z_sorted (by decide +kernel) (pa_cons (pv 2) pa_nil)) pa_nil)) (pa_cons (pe_callTy cr_tupL rfl T.z_tuple (by decide +kernel) (pa_cons (pe_callB cr_sortedI rfl T.z_sorted (by decide +kernel) (pa_cons (pv 4) pa_nil)) pa_nil)) pa_nil))))
      (pss_cons (ps_dput (hu_of hr) (pe_fld (pv 0) rfl) (pv 1) (pv 5) rfl)
      (pss_one (ps_dput (hu_of hr) (pe_fld (pv 0) rfl) (pv 5) (pv 1) rfl))))))
theorem ok_Yard_m_turned {P : Program} {w : World} {K : PySem.W.Frag} {mg : Str → Option Value} {base : Heap} (T : Txt K mg) (D_Yard_m_reached : O_Yard_m_reached P w K mg base) (D_Yard_p_turn : O_Yard_p_turn P w K mg base) : O_Yard_m_turned P w K mg base := by
  obtain ⟨fd_Yard_m_reached, X_Yard_m_reached, G_Yard_m_reached⟩ := D_Yard_m_reached.ex
  have K_Yard_m_reached := X_Yard_m_reached.kp
  have B_Yard_m_reached := X_Yard_m_reached.bindsN (ps := ["self", "game", "done"]) fun _ _ _ _ _ _ us hl => match us, hl with | [_, _, _], _ => rfl
  have V_Yard_m_reached : Vals [] [] := .nil
  obtain ⟨fd_Yard_p_turn, X_Yard_p_turn, G_Yard_p_turn⟩ := D_Yard_p_turn.ex
  have K_Yard_p_turn := X_Yard_p_turn.kp
  have B_Yard_p_turn := X_Yard_p_turn.bindsN (ps := ["self", "game"]) fun _ _ _ _ _ _ us hl => match us, hl with | [_, _], _ => rfl
  have V_Yard_p_turn : Vals [] [] := .nil
  obtain ⟨fd, X⟩ := T.d_Yard_m_turned
  refine ⟨fd, X, X.ok sc_Yard_m_turned (fun vs H Q E h => len_Yard_m_turned h) (fun cdv A outer s H vs Q E hr h => ⟨t_Yard_m_turned P w K E, ?_, pure_Yard_m_turned T.FYard vs H Q E h⟩)⟩
  exact (pss_cons (ps_set (i := 2) sc_Yard_m_turned.nd rfl (Or.inl rfl) (pe_meth (pv 0) T.cl_Yard T.mt_Yard_reached G_Yard_m_reached (hr.mono (by decide)) B_Yard_m_reached .nil (passes_call (takes_of rfl rfl rfl rfl) fun _ _ _ _ z => z) (pa_cons (pv 1) (pa_cons (pe_fld (pv 0) rfl) pa_nil))))
      (pss_cons (ps_for (passes_of rfl) rfl (pi_list (pv 2)) (pg_name (i := 3) sc_Yard_m_turned.nd rfl (Or.inl rfl))
      (pss_one (ps_expr (pe_meth (pv 0) T.cl_Yard T.mt_Yard__turn G_Yard_p_turn (hr.mono (by decide)) B_Yard_p_turn .nil pass0 (pa_cons (pv 3) pa_nil)))))
      (pss_one (ps_ret (pe_dget (hu_of hr) (pe_fld (pv 0) rfl) (pv 1) (fun _ _ => rfl))))))
theorem ok_law_followers {P : Program} {w : World} {K : PySem.W.Frag} {mg : Str → Option Value} {base : Heap} (T : Txt K mg)  : O_law_followers P w K mg base := by
  obtain ⟨fd, X⟩ := T.d_law_followers
  refine ⟨fd, X, X.ok sc_law_followers (fun vs H Q E h => len_law_followers h) (fun cdv A outer s H vs Q E hr h => ⟨t_law_followers K E, PSs.nox ?_, pure_law_followers vs H Q E h⟩)⟩
  exact (pss_cons (ps_asg (pe_lc (own := [("form", 3)]) (g := (gName 3)) (tt := tYes) rfl sc_law_followers.nd (pi_list (pv 0)) (blkOk_by (N := R_law_followers) (sc := defScope s_law_followers) (by decide +kernel)) (fun _ _ _ _ _ => (pg_name (i := 3) sc_law_followers.nd rfl (Or.inl rfl))) (fun _ _ _ _ _ => pts_nil) (fun _ _ _ _ _ => pe_bl)) (pg_name (i := 2) sc_law_followers.nd rfl (Or.inr rfl)))
      (pss_cons (ps_asg pe_bl (pg_sub (pv 2) (pv 1) set_list))
      (pss_cons (ps_for PassesOwn.never rfl (pi_range3 rfl T.z_range (pa_cons (pv 1) (pa_cons (pe_un un_neg pe_int) (pa_cons (pe_un un_neg pe_int) pa_nil)))) (pg_name (i := 4) sc_law_followers.nd rfl (Or.inl rfl))
      (pss_one (ps_if (pt_val (pe_ix ix_list (pv 2) (pv 4) (fun _ _ => rfl))) (pss_one (ps_for PassesOwn.never rfl (pi_list (pe_op op_cat (pe_ix ix_tup (pe_ix ix_list (pv 0) (pv 4) (fun _ _ => rfl)) pe_int (fun _ _ => rfl)) (pe_ix ix_tup (pe_ix ix_list (pv 0) (pv 4) (fun _ _ => rfl)) pe_int (fun _ _ => rfl)))) (pg_name (i := 5) sc_law_followers.nd rfl (Or.inl rfl))
      (pss_one (ps_asg pe_bl (pg_sub (pv 2) (pv 5) set_list))))) pss_nil)))
      (pss_one (ps_ret (pe_lc (own := [("k", 4)]) (g := (gName 4)) (tt := (tB (tOp (rIxL K) (tVar 2) (tVar 4)))) rfl sc_law_followers.nd (pi_range1 rfl T.z_range (pa_cons (pe_op op_add (pv 1) pe_int) pa_nil)) (blkOk_by (N := R_law_followers) (sc := defScope s_law_followers) (by decide +kernel)) (fun _ _ _ _ _ => (pg_name (i := 4) sc_law_followers.nd rfl (Or.inl rfl))) (fun _ _ _ _ _ => (pts_one (pt_val (pe_ix ix_list (pv 2) (pv 4) (fun _ _ => rfl))))) (fun _ _ _ _ _ => (pv 4))))))))
theorem ok_law_put {P : Program} {w : World} {K : PySem.W.Frag} {mg : Str → Option Value} {base : Heap} (T : Txt K mg)  : O_law_put P w K mg base := by
  obtain ⟨fd, X⟩ := T.d_law_put
  refine ⟨fd, X, X.ok sc_law_put (fun vs H Q E h => len_law_put h) (fun cdv A outer s H vs Q E hr h => ⟨t_law_put K E, PSs.nox ?_, pure_law_put vs H Q E h⟩)⟩
  exact (pss_cons (ps_set (i := 4) sc_law_put.nd rfl (Or.inl rfl) (pe_tup (pa_cons (pe_lc (own := [("k", 5)]) (g := (gName 5)) (tt := (tTest (tOp (rIn K false) (tVar 5) (tVar 2)))) rfl sc_law_put.nd (pi_range1 rfl T.z_range (pa_cons (pe_callB cr_lenQ rfl T.z_len (by decide +kernel) (pa_cons (pv 0) pa_nil)) pa_nil)) (blkOk_by (N := R_law_put) (sc := defScope s_law_put) (by decide +kernel)) (fun _ _ _ _ _ => (pg_name (i := 5) sc_law_put.nd rfl (Or.inl rfl))) (fun _ _ _ _ _ => (pts_one (pt_cmpR op_in_seq (pv 5) (pv 2) (by rfl)))) (fun _ _ _ _ _ => (pv 5))) (pa_cons (pe_lc (own := [("k", 5)]) (g := (gName 5)) (tt := (tTest (tOp (rIn K false) (tVar 5) (tVar 3)))) rfl sc_law_put.nd (pi_range1 rfl T.z_range (pa_cons (pe_callB cr_lenQ rfl T.z_len (by decide +kernel) (pa_cons (pv 0) pa_nil)) pa_nil)) (blkOk_by (N := R_law_put) (sc := defScope s_law_put) (by decide +kernel)) (fun _ _ _ _ _ => (pg_name (i := 5) sc_law_put.nd rfl (Or.inl rfl))) (fun _ _ _ _ _ => (pts_one (pt_cmpR op_in_seq (pv 5) (pv 3) (by rfl)))) (fun _ _ _ _ _ => (pv 5))) pa_nil))))
      (pss_cons (ps_for PassesOwn.never rfl (pi_range1 rfl T.z_range (pa_cons (pe_callB cr_lenQ rfl T.z_len (by decide +kernel) (pa_cons (pv 0) pa_nil)) pa_nil)) (pg_name (i := 5) sc_law_put.nd rfl (Or.inl rfl))
      (pss_one (ps_if (pt_cmpR (op_eqD hr.units) (pe_ix ix_list (pv 0) (pv 5) (fun _ _ => rfl)) (pv 4) (nomark _)) (pss_one (ps_ret (pv 5))) pss_nil)))
      (pss_cons (ps_expr (pe_bm PySem.F.plainAttrs_list PySem.F.slot_list_append PySem.F.type_list_append mt_append (pv 0) (pa_cons (pv 4) pa_nil)))
      (pss_cons (ps_expr (pe_bm PySem.F.plainAttrs_list PySem.F.slot_list_append PySem.F.type_list_append mt_append (pv 1) (pa_cons (pe_callB (cr_max rfl) rfl T.z_max (by decide +kernel) (pa_cons (pe_op op_cat (pe_lst (pa_cons pe_int pa_nil)) (pe_lc (own := [("k", 5)]) (g := (gName 5)) (tt := tYes) rfl sc_law_put.nd (pi_list (pe_op op_cat (pe_ix ix_tup (pv 4) pe_int (fun _ _ => rfl)) (pe_ix ix_tup (pv 4) pe_int (fun _ _ => rfl)))) (blkOk_by (N := R_law_put) (sc := defScope s_law_put) (by decide +kernel)) (fun _ _ _ _ _ => (pg_name (i := 5) sc_law_put.nd rfl (Or.inl rfl))) (fun _ _ _ _ _ => pts_nil) (fun _ _ _ _ _ => (pe_op op_add pe_int (pe_ix ix_list (pv 1) (pv 5) (fun _ _ => rfl)))))) pa_nil)) pa_nil)))
      (pss_one (ps_ret (pe_op op_sub (pe_callB cr_lenQ rfl T.z_len (by decide +kernel) (pa_cons (pv 0) pa_nil)) pe_int)))))))
theorem ok_law_is_integer {P : Program} {w : World} {K : PySem.W.Frag} {mg : Str → Option Value} {base : Heap} (T : Txt K mg)  : O_law_is_integer P w K mg base := by
  obtain ⟨fd, X⟩ := T.d_law_is_integer
  refine ⟨fd, X, X.ok sc_law_is_integer (fun vs H Q E h => len_law_is_integer h) (fun cdv A outer s H vs Q E hr h => ⟨t_law_is_integer K E, PSs.nox ?_, pure_law_is_integer vs H Q E h⟩)⟩
  exact (pss_one (ps_ret (pe_and (pe_callB call_isi rfl T.z_isinstance (by decide +kernel) (pa_cons (pv 0) (pa_cons (pe_bltn rfl T.z_int (by decide +kernel) rfl) pa_nil))) (pe_one (pe_not (pe_callB call_isi rfl T.z_isinstance (by decide +kernel) (pa_cons (pv 0) (pa_cons (pe_bltn rfl T.z_bool (by decide +kernel) rfl) pa_nil))))))))
theorem ok_Yard_m_size {P : Program} {w : World} {K : PySem.W.Frag} {mg : Str → Option Value} {base : Heap} (T : Txt K mg)  : O_Yard_m_size P w K mg base := by
  obtain ⟨fd, X⟩ := T.d_Yard_m_size
  refine ⟨fd, X, X.ok sc_Yard_m_size (fun vs H Q E h => len_Yard_m_size h) (fun cdv A outer s H vs Q E hr h => ⟨t_Yard_m_size K E, PSs.nox ?_, pure_Yard_m_size T.FYard vs H Q E h⟩)⟩
  exact (pss_one (ps_ret (pe_callB cr_lenQ rfl T.z_len (by decide +kernel) (pa_cons (pe_fld (pv 0) rfl) pa_nil))))
theorem ok_Yard_m_game {P : Program} {w : World} {K : PySem.W.Frag} {mg : Str → Option Value} {base : Heap} (T : Txt K mg) (D_Yard_m_check : O_Yard_m_check P w K mg base) (D_Yard_p_kept : O_Yard_p_kept P w K mg base) : O_Yard_m_game P w K mg base := by
  obtain ⟨fd_Yard_m_check, X_Yard_m_check, G_Yard_m_check⟩ := D_Yard_m_check.ex
  have K_Yard_m_check := X_Yard_m_check.kp
  have B_Yard_m_check := X_Yard_m_check.bindsN (ps := ["self", "game"]) fun _ _ _ _ _ _ us hl => match us, hl with | [_, _], _ => rfl
  have V_Yard_m_check : Vals [] [] := .nil
  obtain ⟨fd_Yard_p_kept, X_Yard_p_kept, G_Yard_p_kept⟩ := D_Yard_p_kept.ex
  have K_Yard_p_kept := X_Yard_p_kept.kp
  have B_Yard_p_kept := X_Yard_p_kept.bindsN (ps := ["self", "lefts", "rights"]) fun _ _ _ _ _ _ us hl => match us, hl with | [_, _, _], _ => rfl
  have V_Yard_p_kept : Vals [] [] := .nil
  obtain ⟨fd, X⟩ := T.d_Yard_m_game
  refine ⟨fd, X, X.ok sc_Yard_m_game (fun vs H Q E h => len_Yard_m_game h) (fun cdv A outer s H vs Q E hr h => ⟨t_Yard_m_game P w K E, ?_, pure_Yard_m_game vs H Q E h⟩)⟩
  exact (pss_cons (ps_for (passes_of rfl) rfl (pi_list (pv 1)) (pg_name (i := 3) sc_Yard_m_game.nd rfl (Or.inl rfl))
      (pss_one (ps_expr (pe_meth (pv 0) T.cl_Yard T.mt_Yard_check G_Yard_m_check (hr.mono (by decide)) B_Yard_m_check .nil (passes_call (takes_of rfl rfl rfl rfl) fun _ _ _ _ z => z) (pa_cons (pv 3) pa_nil)))))
      (pss_cons (ps_for (passes_of rfl) rfl (pi_list (pv 2)) (pg_name (i := 3) sc_Yard_m_game.nd rfl (Or.inl rfl))
      (pss_one (ps_expr (pe_meth (pv 0) T.cl_Yard T.mt_Yard_check G_Yard_m_check (hr.mono (by decide)) B_Yard_m_check .nil (passes_call (takes_of rfl rfl rfl rfl) fun _ _ _ _ z => z) (pa_cons (pv 3) pa_nil)))))
      (pss_one (ps_ret (pe_meth (pv 0) T.cl_Yard T.mt_Yard__kept G_Yard_p_kept (hr.mono (by decide)) B_Yard_p_kept .nil pass0 (pa_cons (pe_callTy cr_tupL rfl T.z_tuple (by decide +kernel) (pa_cons (pe_callB (cr_sortX rfl) rfl T.z_sorted (by decide +kernel) (pa_cons (pe_callTy (cr_setL rfl) rfl T.z_set (by decide +kernel) (pa_cons (pv 1) pa_nil)) pa_nil)) pa_nil)) (pa_cons (pe_callTy cr_tupL rfl T.z_tuple (by decide +kernel) (pa_cons (pe_callB (cr_sortX rfl) rfl T.z_sorted (by decide +kernel) (pa_cons (pe_callTy (cr_setL rfl) rfl T.z_set (by decide +kernel) (pa_cons (pv 2) pa_nil)) pa_nil)) pa_nil)) pa_nil)))))))
theorem ok_law_turn {P : Program} {w : World} {K : PySem.W.Frag} {mg : Str → Option Value} {base : Heap} (T : Txt K mg) (D_Yard_m_turned : O_Yard_m_turned P w K mg base) (D_law_followers : O_law_followers P w K mg base) (D_law_put : O_law_put P w K mg base) (D_law_is_integer : O_law_is_integer P w K mg base) (D_Yard_m_size : O_Yard_m_size P w K mg base) (D_Yard_m_game : O_Yard_m_game P w K mg base) : O_law_turn P w K mg base := by
  obtain ⟨fd_Yard_m_turned, X_Yard_m_turned, G_Yard_m_turned⟩ := D_Yard_m_turned.ex
  have K_Yard_m_turned := X_Yard_m_turned.kp
  have B_Yard_m_turned := X_Yard_m_turned.bindsN (ps := ["self", "game"]) fun _ _ _ _ _ _ us hl => match us, hl with | [_, _], _ => rfl
  have V_Yard_m_turned : Vals [] [] := .nil
  obtain ⟨fd_law_followers, X_law_followers, G_law_followers⟩ := D_law_followers.ex
  have K_law_followers := X_law_followers.kp
  have B_law_followers := X_law_followers.bindsN (ps := ["model", "at"]) fun _ _ _ _ _ _ us hl => match us, hl with | [_, _], _ => rfl
  have V_law_followers : Vals [] [] := .nil
  obtain ⟨fd_law_put, X_law_put, G_law_put⟩ := D_law_put.ex
  have K_law_put := X_law_put.kp
  have B_law_put := X_law_put.bindsN (ps := ["model", "heights", "lefts", "rights"]) fun _ _ _ _ _ _ us hl => match us, hl with | [_, _, _, _], _ => rfl
  have V_law_put : Vals [] [] := .nil
  obtain ⟨fd_law_is_integer, X_law_is_integer, G_law_is_integer⟩ := D_law_is_integer.ex
  have K_law_is_integer := X_law_is_integer.kp
  have B_law_is_integer := X_law_is_integer.bindsN (ps := ["thing"]) fun _ _ _ _ _ _ us hl => match us, hl with | [_], _ => rfl
  have V_law_is_integer : Vals [] [] := .nil
  obtain ⟨fd_Yard_m_size, X_Yard_m_size, G_Yard_m_size⟩ := D_Yard_m_size.ex
  have K_Yard_m_size := X_Yard_m_size.kp
  have B_Yard_m_size := X_Yard_m_size.bindsN (ps := ["self"]) fun _ _ _ _ _ _ us hl => match us, hl with | [_], _ => rfl
  have V_Yard_m_size : Vals [] [] := .nil
  obtain ⟨fd_Yard_m_game, X_Yard_m_game, G_Yard_m_game⟩ := D_Yard_m_game.ex
  have K_Yard_m_game := X_Yard_m_game.kp
  have B_Yard_m_game := X_Yard_m_game.bindsN (ps := ["self", "lefts", "rights"]) fun _ _ _ _ _ _ us hl => match us, hl with | [_, _, _], _ => rfl
  have V_Yard_m_game : Vals [] [] := .nil
  obtain ⟨fd, X⟩ := T.d_law_turn
  refine ⟨fd, X, X.ok sc_law_turn (fun vs H Q E h => len_law_turn h) (fun cdv A outer s H vs Q E hr h => ⟨t_law_turn P w K E, PSs.nox ?_, pure_law_turn vs H Q E h⟩)⟩
  exact (pss_cons (ps_set (i := 3) sc_law_turn.nd rfl (Or.inl rfl) (pe_ix ix_tup (pv 1) pe_int (fun _ _ => rfl)))
      (pss_cons (ps_set (i := 4) sc_law_turn.nd rfl (Or.inr rfl) (pe_ix ix_tup (pv 1) pe_int (fun _ _ => rfl)))
      (pss_cons (ps_set (i := 5) sc_law_turn.nd rfl (Or.inl rfl) (pe_meth (pv 0) T.cl_Yard T.mt_Yard_turned G_Yard_m_turned (hr.mono (by decide)) B_Yard_m_turned .nil passL (pa_cons (pe_ix ix_list (pv 4) (pv 2) (fun _ _ => rfl)) pa_nil)))
      (pss_cons (ps_asg (pe_lc (own := [("form", 7)]) (g := (gName 7)) (tt := tYes) rfl sc_law_turn.nd (pi_list (pv 3)) (blkOk_by (N := R_law_turn) (sc := defScope s_law_turn) (by decide +kernel)) (fun _ _ _ _ _ => (pg_name (i := 7) sc_law_turn.nd rfl (Or.inl rfl))) (fun _ _ _ _ _ => pts_nil) (fun _ _ _ _ _ => pe_int)) (pg_name (i := 6) sc_law_turn.nd rfl (Or.inr rfl)))
      (pss_cons (ps_for PassesOwn.never rfl (pi_list (pe_call G_law_followers (hr.mono (by decide)) rfl T.g__law_followers K_law_followers B_law_followers V_law_followers pass0 (pa_cons (pv 3) (pa_cons (pv 2) pa_nil)))) (pg_name (i := 8) sc_law_turn.nd rfl (Or.inl rfl))
      (pss_cons (ps_setLc (i := 9) (own := [("option", 10)]) (g := (gName 10)) (tt := tYes) rfl sc_law_turn.nd rfl rfl (sw_true rfl rfl rfl (by decide +kernel)) (pi_list (pe_ix ix_tup (pe_ix ix_list (pv 3) (pv 8) (fun _ _ => rfl)) pe_int (fun _ _ => rfl))) (blkOk_by (N := R_law_turn) (sc := defScope s_law_turn) (by decide +kernel)) (fun _ _ _ _ _ => (pg_name (i := 10) sc_law_turn.nd rfl (Or.inl rfl))) (fun _ _ _ _ _ => pts_nil) (fun _ _ _ _ _ => (pe_ix ix_list (pv 6) (pv 10) (fun _ _ => rfl))))
      (pss_cons (ps_setLc (i := 11) (own := [("option", 10)]) (g := (gName 10)) (tt := tYes) rfl sc_law_turn.nd rfl rfl (sw_true rfl rfl rfl (by decide +kernel)) (pi_list (pe_ix ix_tup (pe_ix ix_list (pv 3) (pv 8) (fun _ _ => rfl)) pe_int (fun _ _ => rfl))) (blkOk_by (N := R_law_turn) (sc := defScope s_law_turn) (by decide +kernel)) (fun _ _ _ _ _ => (pg_name (i := 10) sc_law_turn.nd rfl (Or.inl rfl))) (fun _ _ _ _ _ => pts_nil) (fun _ _ _ _ _ => (pe_ix ix_list (pv 6) (pv 10) (fun _ _ => rfl))))
      (pss_one (ps_asg (pe_call G_law_put (hr.mono (by decide)) rfl T.g__law_put K_law_put B_law_put V_law_put pass0 (pa_cons (pv 3) (pa_cons (pe_ix ix_tup (pv 1) pe_int (fun _ _ => rfl)) (pa_cons (pv 9) (pa_cons (pv 11) pa_nil))))) (pg_sub (pv 6) (pv 8) set_list))))))
      (pss_cons (ps_if (PW.pt (pw_or (pt_not (pt_val (pe_call G_law_is_integer (hr.mono (by decide)) rfl T.g__law_is_integer K_law_is_integer B_law_is_integer V_law_is_integer pass0 (pa_cons (pe_prop (pv 0) T.cl_Yard T.pr_Yard_size G_Yard_m_size (hr.mono (by decide)) B_Yard_m_size .nil pass0 (by rfl)) pa_nil)))) (pw_or1 (pt_cmpR op_ne (pe_prop (pv 0) T.cl_Yard T.pr_Yard_size G_Yard_m_size (hr.mono (by decide)) B_Yard_m_size .nil pass0 (by rfl)) (pe_callB cr_lenQ rfl T.z_len (by decide +kernel) (pa_cons (pv 3) pa_nil)) (nomark _))))) (pss_one (ps_ret pe_bl)) pss_nil)
      (pss_cons (ps_for PassesOwn.never rfl (pi_range2 rfl T.z_range (pa_cons (pe_callB cr_lenQ rfl T.z_len (by decide +kernel) (pa_cons (pv 4) pa_nil)) (pa_cons (pe_callB cr_lenQ rfl T.z_len (by decide +kernel) (pa_cons (pv 3) pa_nil)) pa_nil))) (pg_name (i := 8) sc_law_turn.nd rfl (Or.inl rfl))
      (pss_one (ps_expr (pe_bm PySem.F.plainAttrs_list PySem.F.slot_list_append PySem.F.type_list_append mt_append (pv 4) (pa_cons (pe_meth (pv 0) T.cl_Yard T.mt_Yard_game G_Yard_m_game (hr.mono (by decide)) B_Yard_m_game .nil passL (pa_cons (pe_lc (own := [("i", 12)]) (g := (gName 12)) (tt := tYes) rfl sc_law_turn.nd (pi_list (pe_ix ix_tup (pe_ix ix_list (pv 3) (pv 8) (fun _ _ => rfl)) pe_int (fun _ _ => rfl))) (blkOk_by (N := R_law_turn) (sc := defScope s_law_turn) (by decide +kernel)) (fun _ _ _ _ _ => (pg_name (i := 12) sc_law_turn.nd rfl (Or.inl rfl))) (fun _ _ _ _ _ => pts_nil) (fun _ _ _ _ _ => (pe_ix ix_list (pv 4) (pv 12) (fun _ _ => rfl)))) (pa_cons (pe_lc (own := [("i", 12)]) (g := (gName 12)) (tt := tYes) rfl sc_law_turn.nd (pi_list (pe_ix ix_tup (pe_ix ix_list (pv 3) (pv 8) (fun _ _ => rfl)) pe_int (fun _ _ => rfl))) (blkOk_by (N := R_law_turn) (sc := defScope s_law_turn) (by decide +kernel)) (fun _ _ _ _ _ => (pg_name (i := 12) sc_law_turn.nd rfl (Or.inl rfl))) (fun _ _ _ _ _ => pts_nil) (fun _ _ _ _ _ => (pe_ix ix_list (pv 4) (pv 12) (fun _ _ => rfl)))) pa_nil))) pa_nil)))))
      (pss_one (ps_ret (pe_and (pe_call G_law_is_integer (hr.mono (by decide)) rfl T.g__law_is_integer K_law_is_integer B_law_is_integer V_law_is_integer pass0 (pa_cons (pv 5) pa_nil)) (pe_one (pe_cmpR op_eq (pv 5) (pe_ix ix_list (pv 4) (pe_ix ix_list (pv 6) (pv 2) (fun _ _ => rfl)) (fun _ _ => rfl)) (nomark _)))))))))))))
theorem ok_Yard_m_lefts {P : Program} {w : World} {K : PySem.W.Frag} {mg : Str → Option Value} {base : Heap} (T : Txt K mg) (D_Yard_m_check : O_Yard_m_check P w K mg base) : O_Yard_m_lefts P w K mg base := by
  obtain ⟨fd_Yard_m_check, X_Yard_m_check, G_Yard_m_check⟩ := D_Yard_m_check.ex
  have K_Yard_m_check := X_Yard_m_check.kp
  have B_Yard_m_check := X_Yard_m_check.bindsN (ps := ["self", "game"]) fun _ _ _ _ _ _ us hl => match us, hl with | [_, _], _ => rfl
  have V_Yard_m_check : Vals [] [] := .nil
  obtain ⟨fd, X⟩ := T.d_Yard_m_lefts
  refine ⟨fd, X, X.ok sc_Yard_m_lefts (fun vs H Q E h => len_Yard_m_lefts h) (fun cdv A outer s H vs Q E hr h => ⟨t_Yard_m_lefts P w K E, ?_, pure_Yard_m_lefts T.FYard vs H Q E h⟩)⟩
  exact (pss_cons (ps_expr (pe_meth (pv 0) T.cl_Yard T.mt_Yard_check G_Yard_m_check (hr.mono (by decide)) B_Yard_m_check .nil (passes_call (takes_of rfl rfl rfl rfl) fun _ _ _ _ z => z) (pa_cons (pv 1) pa_nil)))
      (pss_one (ps_ret (pe_callTy cr_listQ rfl T.z_list (by decide +kernel) (pa_cons (pe_ix ix_list (pe_fld (pv 0) rfl) (pv 1) (fun _ _ => rfl)) pa_nil)))))
theorem ok_Yard_m_rights {P : Program} {w : World} {K : PySem.W.Frag} {mg : Str → Option Value} {base : Heap} (T : Txt K mg) (D_Yard_m_check : O_Yard_m_check P w K mg base) : O_Yard_m_rights P w K mg base := by
  obtain ⟨fd_Yard_m_check, X_Yard_m_check, G_Yard_m_check⟩ := D_Yard_m_check.ex
  have K_Yard_m_check := X_Yard_m_check.kp
  have B_Yard_m_check := X_Yard_m_check.bindsN (ps := ["self", "game"]) fun _ _ _ _ _ _ us hl => match us, hl with | [_, _], _ => rfl
  have V_Yard_m_check : Vals [] [] := .nil
  obtain ⟨fd, X⟩ := T.d_Yard_m_rights
  refine ⟨fd, X, X.ok sc_Yard_m_rights (fun vs H Q E h => len_Yard_m_rights h) (fun cdv A outer s H vs Q E hr h => ⟨t_Yard_m_rights P w K E, ?_, pure_Yard_m_rights T.FYard vs H Q E h⟩)⟩
  exact (pss_cons (ps_expr (pe_meth (pv 0) T.cl_Yard T.mt_Yard_check G_Yard_m_check (hr.mono (by decide)) B_Yard_m_check .nil (passes_call (takes_of rfl rfl rfl rfl) fun _ _ _ _ z => z) (pa_cons (pv 1) pa_nil)))
      (pss_one (ps_ret (pe_callTy cr_listQ rfl T.z_list (by decide +kernel) (pa_cons (pe_ix ix_list (pe_fld (pv 0) rfl) (pv 1) (fun _ _ => rfl)) pa_nil)))))
theorem ok_Yard_m_options {P : Program} {w : World} {K : PySem.W.Frag} {mg : Str → Option Value} {base : Heap} (T : Txt K mg) (D_Yard_m_lefts : O_Yard_m_lefts P w K mg base) (D_Yard_m_rights : O_Yard_m_rights P w K mg base) : O_Yard_m_options P w K mg base := by
  obtain ⟨fd_Yard_m_lefts, X_Yard_m_lefts, G_Yard_m_lefts⟩ := D_Yard_m_lefts.ex
  have K_Yard_m_lefts := X_Yard_m_lefts.kp
  have B_Yard_m_lefts := X_Yard_m_lefts.bindsN (ps := ["self", "game"]) fun _ _ _ _ _ _ us hl => match us, hl with | [_, _], _ => rfl
  have V_Yard_m_lefts : Vals [] [] := .nil
  obtain ⟨fd_Yard_m_rights, X_Yard_m_rights, G_Yard_m_rights⟩ := D_Yard_m_rights.ex
  have K_Yard_m_rights := X_Yard_m_rights.kp
  have B_Yard_m_rights := X_Yard_m_rights.bindsN (ps := ["self", "game"]) fun _ _ _ _ _ _ us hl => match us, hl with | [_, _], _ => rfl
  have V_Yard_m_rights : Vals [] [] := .nil
  obtain ⟨fd, X⟩ := T.d_Yard_m_options
  refine ⟨fd, X, X.ok sc_Yard_m_options (fun vs H Q E h => len_Yard_m_options h) (fun cdv A outer s H vs Q E hr h => ⟨t_Yard_m_options P w K E, ?_, pure_Yard_m_options vs H Q E h⟩)⟩
  exact (pss_cons (ps_if (pt_cmpR op_eq (pv 2) pe_str (nomark _)) (pss_one (ps_ret (pe_meth (pv 0) T.cl_Yard T.mt_Yard_lefts G_Yard_m_lefts (hr.mono (by decide)) B_Yard_m_lefts .nil (passes_call (takes_of rfl rfl rfl rfl) fun _ _ _ _ z => z) (pa_cons (pv 1) pa_nil)))) pss_nil)
      (pss_one (ps_ret (pe_meth (pv 0) T.cl_Yard T.mt_Yard_rights G_Yard_m_rights (hr.mono (by decide)) B_Yard_m_rights .nil (passes_call (takes_of rfl rfl rfl rfl) fun _ _ _ _ z => z) (pa_cons (pv 1) pa_nil)))))
theorem ok_Yard_m_height {P : Program} {w : World} {K : PySem.W.Frag} {mg : Str → Option Value} {base : Heap} (T : Txt K mg) (D_Yard_m_check : O_Yard_m_check P w K mg base) : O_Yard_m_height P w K mg base := by
  obtain ⟨fd_Yard_m_check, X_Yard_m_check, G_Yard_m_check⟩ := D_Yard_m_check.ex
  have K_Yard_m_check := X_Yard_m_check.kp
  have B_Yard_m_check := X_Yard_m_check.bindsN (ps := ["self", "game"]) fun _ _ _ _ _ _ us hl => match us, hl with | [_, _], _ => rfl
  have V_Yard_m_check : Vals [] [] := .nil
  obtain ⟨fd, X⟩ := T.d_Yard_m_height
  refine ⟨fd, X, X.ok sc_Yard_m_height (fun vs H Q E h => len_Yard_m_height h) (fun cdv A outer s H vs Q E hr h => ⟨t_Yard_m_height P w K E, ?_, pure_Yard_m_height T.FYard vs H Q E h⟩)⟩
  exact (pss_cons (ps_expr (pe_meth (pv 0) T.cl_Yard T.mt_Yard_check G_Yard_m_check (hr.mono (by decide)) B_Yard_m_check .nil (passes_call (takes_of rfl rfl rfl rfl) fun _ _ _ _ z => z) (pa_cons (pv 1) pa_nil)))
      (pss_one (ps_ret (pe_ix ix_list (pe_fld (pv 0) rfl) (pv 1) (fun _ _ => rfl)))))
theorem ok_Yard_m_followers {P : Program} {w : World} {K : PySem.W.Frag} {mg : Str → Option Value} {base : Heap} (T : Txt K mg) (D_Yard_m_reached : O_Yard_m_reached P w K mg base) : O_Yard_m_followers P w K mg base := by
  obtain ⟨fd_Yard_m_reached, X_Yard_m_reached, G_Yard_m_reached⟩ := D_Yard_m_reached.ex
  have K_Yard_m_reached := X_Yard_m_reached.kp
  have B_Yard_m_reached := X_Yard_m_reached.bindsN (ps := ["self", "game", "done"]) fun _ _ _ _ _ _ us hl => match us, hl with | [_, _, _], _ => rfl
  have V_Yard_m_reached : Vals [] [] := .nil
  obtain ⟨fd, X⟩ := T.d_Yard_m_followers
  refine ⟨fd, X, X.ok sc_Yard_m_followers (fun vs H Q E h => len_Yard_m_followers h) (fun cdv A outer s H vs Q E hr h => ⟨t_Yard_m_followers P w K E, ?_, pure_Yard_m_followers vs H Q E h⟩)⟩
  exact (pss_one (ps_ret (pe_meth (pv 0) T.cl_Yard T.mt_Yard_reached G_Yard_m_reached (hr.mono (by decide)) B_Yard_m_reached .nil (passes_call (takes_of rfl rfl rfl rfl) fun _ _ _ _ z => z) (pa_cons (pv 1) (pa_cons pe_dnewK pa_nil)))))
theorem ok_law_is_unknown {P : Program} {w : World} {K : PySem.W.Frag} {mg : Str → Option Value} {base : Heap} (T : Txt K mg)  : O_law_is_unknown P w K mg base := by
  obtain ⟨fd, X⟩ := T.d_law_is_unknown
  refine ⟨fd, X, okE X sc_law_is_unknown (fun a vs H Q E h => len_law_is_unknown h) (fun cdv A outer s H vs Q E a oe hz hf hr h => ⟨t_law_is_unknown K a E, PSs.nox ?_, pure_law_is_unknown T.FUnkE a vs H Q E h⟩)⟩
  exact (pss_cons (ps_if (PW.pt (pw_or (pt_val (pe_callB (call_isP T.xc_Unknown List.mem_cons_self hz hf) rfl T.z_isinstance (by decide +kernel) (pa_cons (pv 0) (pa_cons (C8.pe_gc rfl ⟨_, T.g_BadText, rfl⟩) pa_nil)))) (pw_or (pt_val (pe_callB (call_isP T.xc_Unknown List.mem_cons_self hz hf) rfl T.z_isinstance (by decide +kernel) (pa_cons (pv 0) (pa_cons (C8.pe_gc rfl ⟨_, T.g_BadValue, rfl⟩) pa_nil)))) (pw_or1 (pt_val (pe_callB (call_isP T.xc_Unknown List.mem_cons_self hz hf) rfl T.z_isinstance (by decide +kernel) (pa_cons (pv 0) (pa_cons (C8.pe_gc rfl ⟨_, T.g_NoMove, rfl⟩) pa_nil)))))))) (pss_one (ps_ret pe_bl)) pss_nil)
      (pss_one (ps_ret (pe_and (pe_callB (call_isP T.xc_Unknown List.mem_cons_self hz hf) rfl T.z_isinstance (by decide +kernel) (pa_cons (pv 0) (pa_cons (C8.pe_gc rfl ⟨_, T.g_Unknown, rfl⟩) pa_nil))) (pe_one (pe_callB (call_isP T.xc_Unknown List.mem_cons_self hz hf) rfl T.z_isinstance (by decide +kernel) (pa_cons (pv 0) (pa_cons (pe_bltn rfl T.z_ValueError (by decide +kernel) rfl) pa_nil))))))))
theorem ok_law_refused {P : Program} {w : World} {K : PySem.W.Frag} {mg : Str → Option Value} {base : Heap} (T : Txt K mg) (D_Yard_m_game : O_Yard_m_game P w K mg base) (D_Yard_m_lefts : O_Yard_m_lefts P w K mg base) (D_Yard_m_rights : O_Yard_m_rights P w K mg base) (D_Yard_m_options : O_Yard_m_options P w K mg base) (D_Yard_m_height : O_Yard_m_height P w K mg base) (D_Yard_m_followers : O_Yard_m_followers P w K mg base) (D_Yard_m_turned : O_Yard_m_turned P w K mg base) (D_law_is_unknown : O_law_is_unknown P w K mg base) : O_law_refused P w K mg base := by
  obtain ⟨fd_Yard_m_game, X_Yard_m_game, G_Yard_m_game⟩ := D_Yard_m_game.ex
  have K_Yard_m_game := X_Yard_m_game.kp
  have B_Yard_m_game := X_Yard_m_game.bindsN (ps := ["self", "lefts", "rights"]) fun _ _ _ _ _ _ us hl => match us, hl with | [_, _, _], _ => rfl
  have V_Yard_m_game : Vals [] [] := .nil
  obtain ⟨fd_Yard_m_lefts, X_Yard_m_lefts, G_Yard_m_lefts⟩ := D_Yard_m_lefts.ex
  have K_Yard_m_lefts := X_Yard_m_lefts.kp
  have B_Yard_m_lefts := X_Yard_m_lefts.bindsN (ps := ["self", "game"]) fun _ _ _ _ _ _ us hl => match us, hl with | [_, _], _ => rfl
  have V_Yard_m_lefts : Vals [] [] := .nil
  obtain ⟨fd_Yard_m_rights, X_Yard_m_rights, G_Yard_m_rights⟩ := D_Yard_m_rights.ex
  have K_Yard_m_rights := X_Yard_m_rights.kp
  have B_Yard_m_rights := X_Yard_m_rights.bindsN (ps := ["self", "game"]) fun _ _ _ _ _ _ us hl => match us, hl with | [_, _], _ => rfl
  have V_Yard_m_rights : Vals [] [] := .nil
  obtain ⟨fd_Yard_m_options, X_Yard_m_options, G_Yard_m_options⟩ := D_Yard_m_options.ex
  have K_Yard_m_options := X_Yard_m_options.kp
  have B_Yard_m_options := X_Yard_m_options.bindsN (ps := ["self", "game", "side"]) fun _ _ _ _ _ _ us hl => match us, hl with | [_, _, _], _ => rfl
  have V_Yard_m_options : Vals [] [] := .nil
  obtain ⟨fd_Yard_m_height, X_Yard_m_height, G_Yard_m_height⟩ := D_Yard_m_height.ex
  have K_Yard_m_height := X_Yard_m_height.kp
  have B_Yard_m_height := X_Yard_m_height.bindsN (ps := ["self", "game"]) fun _ _ _ _ _ _ us hl => match us, hl with | [_, _], _ => rfl
  have V_Yard_m_height : Vals [] [] := .nil
  obtain ⟨fd_Yard_m_followers, X_Yard_m_followers, G_Yard_m_followers⟩ := D_Yard_m_followers.ex
  have K_Yard_m_followers := X_Yard_m_followers.kp
  have B_Yard_m_followers := X_Yard_m_followers.bindsN (ps := ["self", "game"]) fun _ _ _ _ _ _ us hl => match us, hl with | [_, _], _ => rfl
  have V_Yard_m_followers : Vals [] [] := .nil
  obtain ⟨fd_Yard_m_turned, X_Yard_m_turned, G_Yard_m_turned⟩ := D_Yard_m_turned.ex
  have K_Yard_m_turned := X_Yard_m_turned.kp
  have B_Yard_m_turned := X_Yard_m_turned.bindsN (ps := ["self", "game"]) fun _ _ _ _ _ _ us hl => match us, hl with | [_, _], _ => rfl
  have V_Yard_m_turned : Vals [] [] := .nil
  obtain ⟨fd_law_is_unknown, X_law_is_unknown, G_law_is_unknown⟩ := D_law_is_unknown.ex
  have K_law_is_unknown := X_law_is_unknown.kp
  have B_law_is_unknown := X_law_is_unknown.bindsN (ps := ["e"]) fun _ _ _ _ _ _ us hl => match us, hl with | [_], _ => rfl
  have V_law_is_unknown : Vals [] [] := .nil
  obtain ⟨fd, X⟩ := T.d_law_refused
  refine ⟨fd, X, X.ok sc_law_refused (fun vs H Q E h => len_law_refused h) (fun cdv A outer s H vs Q E hr h => ⟨t_law_refused P w K E, PSs.nox ?_, pure_law_refused T.FPlE vs H Q E h⟩)⟩
  exact (pss_cons (ps_try_as (i := 4) (c := (.ref (He.ga K "PlayError"))) (tb := fun W => (tIfS (tTest (tOp rEq (tVar 1) (tC (.int 0)))) (tDrop (tMethE (He.ga K "Yard") "game" (sp_Yard_m_game P w K) (WE W) (tVar 0) (tCons (tLst (tCons (tVar 2) (tCons (tVar 3) tNil))) (tCons (tLst tNil) tNil)))) (tIfS (tTest (tOp rEq (tVar 1) (tC (.int 1)))) (tDrop (tMethE (He.ga K "Yard") "game" (sp_Yard_m_game P w K) (WE W) (tVar 0) (tCons (tLst (tCons (tVar 2) tNil)) (tCons (tLst (tCons (tVar 3) (tCons (tVar 2) tNil))) tNil)))) (tIfS (tTest (tOp rEq (tVar 1) (tC (.int 2)))) (tDrop (tMethE (He.ga K "Yard") "game" (sp_Yard_m_game P w K) (WE W) (tVar 0) (tCons (tLst (tCons (tVar 3) tNil)) (tCons (tLst (tCons (tVar 3) tNil)) tNil)))) (tIfS (tTest (tOp rEq (tVar 1) (tC (.int 3)))) (tDrop (tMethE (He.ga K "Yard") "lefts" (sp_Yard_m_lefts P w K) (WE W) (tVar 0) (tCons (tVar 3) tNil))) (tIfS (tTest (tOp rEq (tVar 1) (tC (.int 4)))) (tDrop (tMethE (He.ga K "Yard") "rights" (sp_Yard_m_rights P w K) (WE W) (tVar 0) (tCons (tVar 3) tNil))) (tIfS (tTest (tOp rEq (tVar 1) (tC (.int 5)))) (tDrop (tMethE (He.ga K "Yard") "options" (sp_Yard_m_options P w K) (WE W) (tVar 0) (tCons (tVar 3) (tCons (tC (.str "left")) tNil)))) (tIfS (tTest (tOp rEq (tVar 1) (tC (.int 6)))) (tDrop (tMethE (He.ga K "Yard") "options" (sp_Yard_m_options P w K) (WE W) (tVar 0) (tCons (tVar 3) (tCons (tC (.str "right")) tNil)))) (tIfS (tTest (tOp rEq (tVar 1) (tC (.int 7)))) (tDrop (tMethE (He.ga K "Yard") "height" (sp_Yard_m_height P w K) (WE W) (tVar 0) (tCons (tVar 3) tNil))) (tIfS (tTest (tOp rEq (tVar 1) (tC (.int 8)))) (tDrop (tMethE (He.ga K "Yard") "followers" (sp_Yard_m_followers P w K) (WE W) (tVar 0) (tCons (tVar 3) tNil))) (tDrop (tMethE (He.ga K "Yard") "turned" (sp_Yard_m_turned P w K) (WE W) (tVar 0) (tCons (tVar 3) tNil))))))))))))) (ts := (fun a cls d => tWhen (cls = .ref (He.ga K "Unknown") ∧ d = none) (tRet (tCallE (sp_law_is_unknown K) a E0 (tCons (tVar 4) tNil))))) (Wout := fun _ _ _ _ => False) rfl rfl sc_law_refused.nd rfl rfl ⟨rfl, by decide, Or.inl T.g_PlayError⟩ takes0 (fun W pn xe tk _ => (pss_one (ps_if (pt_cmpR op_eq (pv 1) pe_int (nomark _)) (pss_one (ps_expr (pe_methE (pv 0) T.cl_Yard T.mt_Yard_game G_Yard_m_game (hr.mono (by decide)) B_Yard_m_game (fun σ => passAt tk σ) (pa_cons (pe_lst (pa_cons (pv 2) (pa_cons (pv 3) pa_nil))) (pa_cons (pe_lst pa_nil) pa_nil))))) (pss_one (ps_if (pt_cmpR op_eq (pv 1) pe_int (nomark _)) (pss_one (ps_expr (pe_methE (pv 0) T.cl_Yard T.mt_Yard_game G_Yard_m_game (hr.mono (by decide)) B_Yard_m_game (fun σ => passAt tk σ) (pa_cons (pe_lst (pa_cons (pv 2) pa_nil)) (pa_cons (pe_lst (pa_cons (pv 3) (pa_cons (pv 2) pa_nil))) pa_nil))))) (pss_one (ps_if (pt_cmpR op_eq (pv 1) pe_int (nomark _)) (pss_one (ps_expr (pe_methE (pv 0) T.cl_Yard T.mt_Yard_game G_Yard_m_game (hr.mono (by decide)) B_Yard_m_game (fun σ => passAt tk σ) (pa_cons (pe_lst (pa_cons (pv 3) pa_nil)) (pa_cons (pe_lst (pa_cons (pv 3) pa_nil)) pa_nil))))) (pss_one (ps_if (pt_cmpR op_eq (pv 1) pe_int (nomark _)) (pss_one (ps_expr (pe_methE (pv 0) T.cl_Yard T.mt_Yard_lefts G_Yard_m_lefts (hr.mono (by decide)) B_Yard_m_lefts (fun σ => passAt tk σ) (pa_cons (pv 3) pa_nil)))) (pss_one (ps_if (pt_cmpR op_eq (pv 1) pe_int (nomark _)) (pss_one (ps_expr (pe_methE (pv 0) T.cl_Yard T.mt_Yard_rights G_Yard_m_rights (hr.mono (by decide)) B_Yard_m_rights (fun σ => passAt tk σ) (pa_cons (pv 3) pa_nil)))) (pss_one (ps_if (pt_cmpR op_eq (pv 1) pe_int (nomark _)) (pss_one (ps_expr (pe_methE (pv 0) T.cl_Yard T.mt_Yard_options G_Yard_m_options (hr.mono (by decide)) B_Yard_m_options (fun σ => passAt tk σ) (pa_cons (pv 3) (pa_cons pe_str pa_nil))))) (pss_one (ps_if (pt_cmpR op_eq (pv 1) pe_int (nomark _)) (pss_one (ps_expr (pe_methE (pv 0) T.cl_Yard T.mt_Yard_options G_Yard_m_options (hr.mono (by decide)) B_Yard_m_options (fun σ => passAt tk σ) (pa_cons (pv 3) (pa_cons pe_str pa_nil))))) (pss_one (ps_if (pt_cmpR op_eq (pv 1) pe_int (nomark _)) (pss_one (ps_expr (pe_methE (pv 0) T.cl_Yard T.mt_Yard_height G_Yard_m_height (hr.mono (by decide)) B_Yard_m_height (fun σ => passAt tk σ) (pa_cons (pv 3) pa_nil)))) (pss_one (ps_if (pt_cmpR op_eq (pv 1) pe_int (nomark _)) (pss_one (ps_expr (pe_methE (pv 0) T.cl_Yard T.mt_Yard_followers G_Yard_m_followers (hr.mono (by decide)) B_Yard_m_followers (fun σ => passAt tk σ) (pa_cons (pv 3) pa_nil)))) (pss_one (ps_expr (pe_methE (pv 0) T.cl_Yard T.mt_Yard_turned G_Yard_m_turned (hr.mono (by decide)) B_Yard_m_turned (fun σ => passAt tk σ) (pa_cons (pv 3) pa_nil))))))))))))))))))))))) (fun a oe cls d pn hz hf => pss_when fun hh => (pss_one (ps_ret (pe_callE G_law_is_unknown (roomHM (hr.mono (by decide))) List.mem_cons_self (zc_at hh hz) hf rfl T.g__law_is_unknown K_law_is_unknown B_law_is_unknown pass0 (pa_cons (pv 4) pa_nil))))))
      (pss_one (ps_ret pe_bl)))
theorem ok_law_all_integers {P : Program} {w : World} {K : PySem.W.Frag} {mg : Str → Option Value} {base : Heap} (T : Txt K mg) (D_law_is_integer : O_law_is_integer P w K mg base) : O_law_all_integers P w K mg base := by
  obtain ⟨fd_law_is_integer, X_law_is_integer, G_law_is_integer⟩ := D_law_is_integer.ex
  have K_law_is_integer := X_law_is_integer.kp
  have B_law_is_integer := X_law_is_integer.bindsN (ps := ["thing"]) fun _ _ _ _ _ _ us hl => match us, hl with | [_], _ => rfl
  have V_law_is_integer : Vals [] [] := .nil
  obtain ⟨fd, X⟩ := T.d_law_all_integers
  refine ⟨fd, X, X.ok sc_law_all_integers (fun vs H Q E h => len_law_all_integers h) (fun cdv A outer s H vs Q E hr h => ⟨t_law_all_integers K E, PSs.nox ?_, pure_law_all_integers vs H Q E h⟩)⟩
  exact (pss_one (ps_ret (pe_cmpR op_eq (pe_callB cr_lenQ rfl T.z_len (by decide +kernel) (pa_cons (pe_lc (own := [("number", 1)]) (g := (gName 1)) (tt := (tNot (tB (tCall (sp_law_is_integer K) [] E0 (tCons (tVar 1) tNil))))) rfl sc_law_all_integers.nd (pi_list (pv 0)) (blkOk_by (N := R_law_all_integers) (sc := defScope s_law_all_integers) (by decide +kernel)) (fun _ _ _ _ _ => (pg_name (i := 1) sc_law_all_integers.nd rfl (Or.inl rfl))) (fun _ _ _ _ _ => (pts_one (pt_not (pt_val (pe_call G_law_is_integer (hr.mono (by decide)) rfl T.g__law_is_integer K_law_is_integer B_law_is_integer V_law_is_integer pass0 (pa_cons (pv 1) pa_nil)))))) (fun _ _ _ _ _ => (pv 1))) pa_nil)) pe_int (nomark _))))
theorem ok_law_is_list {P : Program} {w : World} {K : PySem.W.Frag} {mg : Str → Option Value} {base : Heap} (T : Txt K mg) (D_law_all_integers : O_law_all_integers P w K mg base) : O_law_is_list P w K mg base := by
  obtain ⟨fd_law_all_integers, X_law_all_integers, G_law_all_integers⟩ := D_law_all_integers.ex
  have K_law_all_integers := X_law_all_integers.kp
  have B_law_all_integers := X_law_all_integers.bindsN (ps := ["numbers"]) fun _ _ _ _ _ _ us hl => match us, hl with | [_], _ => rfl
  have V_law_all_integers : Vals [] [] := .nil
  obtain ⟨fd, X⟩ := T.d_law_is_list
  refine ⟨fd, X, X.ok sc_law_is_list (fun vs H Q E h => len_law_is_list h) (fun cdv A outer s H vs Q E hr h => ⟨t_law_is_list K E, PSs.nox ?_, pure_law_is_list vs H Q E h⟩)⟩
  exact (pss_one (ps_ret (pe_and (pe_callB call_isi rfl T.z_isinstance (by decide +kernel) (pa_cons (pv 0) (pa_cons (pe_bltn rfl T.z_list (by decide +kernel) rfl) pa_nil))) (pe_and (pe_call G_law_all_integers (hr.mono (by decide)) rfl T.g__law_all_integers K_law_all_integers B_law_all_integers V_law_all_integers pass0 (pa_cons (pv 0) pa_nil)) (pe_one (pe_cmpR (op_eqD hr.units) (pv 0) (pv 1) (nomark _)))))))
theorem ok_law_read {P : Program} {w : World} {K : PySem.W.Frag} {mg : Str → Option Value} {base : Heap} (T : Txt K mg) (D_Yard_m_lefts : O_Yard_m_lefts P w K mg base) (D_Yard_m_rights : O_Yard_m_rights P w K mg base) (D_Yard_m_followers : O_Yard_m_followers P w K mg base) (D_law_followers : O_law_followers P w K mg base) (D_law_is_list : O_law_is_list P w K mg base) (D_Yard_m_height : O_Yard_m_height P w K mg base) (D_law_is_integer : O_law_is_integer P w K mg base) : O_law_read P w K mg base := by
  obtain ⟨fd_Yard_m_lefts, X_Yard_m_lefts, G_Yard_m_lefts⟩ := D_Yard_m_lefts.ex
  have K_Yard_m_lefts := X_Yard_m_lefts.kp
  have B_Yard_m_lefts := X_Yard_m_lefts.bindsN (ps := ["self", "game"]) fun _ _ _ _ _ _ us hl => match us, hl with | [_, _], _ => rfl
  have V_Yard_m_lefts : Vals [] [] := .nil
  obtain ⟨fd_Yard_m_rights, X_Yard_m_rights, G_Yard_m_rights⟩ := D_Yard_m_rights.ex
  have K_Yard_m_rights := X_Yard_m_rights.kp
  have B_Yard_m_rights := X_Yard_m_rights.bindsN (ps := ["self", "game"]) fun _ _ _ _ _ _ us hl => match us, hl with | [_, _], _ => rfl
  have V_Yard_m_rights : Vals [] [] := .nil
  obtain ⟨fd_Yard_m_followers, X_Yard_m_followers, G_Yard_m_followers⟩ := D_Yard_m_followers.ex
  have K_Yard_m_followers := X_Yard_m_followers.kp
  have B_Yard_m_followers := X_Yard_m_followers.bindsN (ps := ["self", "game"]) fun _ _ _ _ _ _ us hl => match us, hl with | [_, _], _ => rfl
  have V_Yard_m_followers : Vals [] [] := .nil
  obtain ⟨fd_law_followers, X_law_followers, G_law_followers⟩ := D_law_followers.ex
  have K_law_followers := X_law_followers.kp
  have B_law_followers := X_law_followers.bindsN (ps := ["model", "at"]) fun _ _ _ _ _ _ us hl => match us, hl with | [_, _], _ => rfl
  have V_law_followers : Vals [] [] := .nil
  obtain ⟨fd_law_is_list, X_law_is_list, G_law_is_list⟩ := D_law_is_list.ex
  have K_law_is_list := X_law_is_list.kp
  have B_law_is_list := X_law_is_list.bindsN (ps := ["told", "due"]) fun _ _ _ _ _ _ us hl => match us, hl with | [_, _], _ => rfl
  have V_law_is_list : Vals [] [] := .nil
  obtain ⟨fd_Yard_m_height, X_Yard_m_height, G_Yard_m_height⟩ := D_Yard_m_height.ex
  have K_Yard_m_height := X_Yard_m_height.kp
  have B_Yard_m_height := X_Yard_m_height.bindsN (ps := ["self", "game"]) fun _ _ _ _ _ _ us hl => match us, hl with | [_, _], _ => rfl
  have V_Yard_m_height : Vals [] [] := .nil
  obtain ⟨fd_law_is_integer, X_law_is_integer, G_law_is_integer⟩ := D_law_is_integer.ex
  have K_law_is_integer := X_law_is_integer.kp
  have B_law_is_integer := X_law_is_integer.bindsN (ps := ["thing"]) fun _ _ _ _ _ _ us hl => match us, hl with | [_], _ => rfl
  have V_law_is_integer : Vals [] [] := .nil
  obtain ⟨fd, X⟩ := T.d_law_read
  refine ⟨fd, X, X.ok sc_law_read (fun vs H Q E h => len_law_read h) (fun cdv A outer s H vs Q E hr h => ⟨t_law_read P w K E, PSs.nox ?_, pure_law_read vs H Q E h⟩)⟩
  exact (pss_cons (ps_set (i := 3) sc_law_read.nd rfl (Or.inl rfl) (pe_ix ix_tup (pv 1) pe_int (fun _ _ => rfl)))
      (pss_cons (ps_set (i := 4) sc_law_read.nd rfl (Or.inr rfl) (pe_ix ix_tup (pv 1) pe_int (fun _ _ => rfl)))
      (pss_cons (ps_set (i := 5) sc_law_read.nd rfl (Or.inl rfl) (pe_lst (pa_cons (pe_meth (pv 0) T.cl_Yard T.mt_Yard_lefts G_Yard_m_lefts (hr.mono (by decide)) B_Yard_m_lefts .nil passL (pa_cons (pe_ix ix_list (pv 4) (pv 2) (fun _ _ => rfl)) pa_nil)) (pa_cons (pe_meth (pv 0) T.cl_Yard T.mt_Yard_rights G_Yard_m_rights (hr.mono (by decide)) B_Yard_m_rights .nil passL (pa_cons (pe_ix ix_list (pv 4) (pv 2) (fun _ _ => rfl)) pa_nil)) (pa_cons (pe_meth (pv 0) T.cl_Yard T.mt_Yard_followers G_Yard_m_followers (hr.mono (by decide)) B_Yard_m_followers .nil passL (pa_cons (pe_ix ix_list (pv 4) (pv 2) (fun _ _ => rfl)) pa_nil)) pa_nil)))))
      (pss_cons (ps_set (i := 6) sc_law_read.nd rfl (Or.inl rfl) (pe_lst (pa_cons (pe_ix ix_tup (pe_ix ix_list (pv 3) (pv 2) (fun _ _ => rfl)) pe_int (fun _ _ => rfl)) (pa_cons (pe_ix ix_tup (pe_ix ix_list (pv 3) (pv 2) (fun _ _ => rfl)) pe_int (fun _ _ => rfl)) (pa_cons (pe_call G_law_followers (hr.mono (by decide)) rfl T.g__law_followers K_law_followers B_law_followers V_law_followers pass0 (pa_cons (pv 3) (pa_cons (pv 2) pa_nil))) pa_nil)))))
      (pss_cons (ps_for PassesOwn.never rfl (pi_range1 rfl T.z_range (pa_cons pe_int pa_nil)) (pg_name (i := 7) sc_law_read.nd rfl (Or.inl rfl))
      (pss_cons (ps_if (pt_not (pt_val (pe_call G_law_is_list (hr.mono (by decide)) rfl T.g__law_is_list K_law_is_list B_law_is_list V_law_is_list pass0 (pa_cons (pe_ix ix_list (pv 5) (pv 7) (fun _ _ => rfl)) (pa_cons (pe_callB cr_sortedI rfl T.z_sorted (by decide +kernel) (pa_cons (pe_lc (own := [("i", 8)]) (g := (gName 8)) (tt := tYes) rfl sc_law_read.nd (pi_list (pe_ix ix_list (pv 6) (pv 7) (fun _ _ => rfl))) (blkOk_by (N := R_law_read) (sc := defScope s_law_read) (by decide +kernel)) (fun _ _ _ _ _ => (pg_name (i := 8) sc_law_read.nd rfl (Or.inl rfl))) (fun _ _ _ _ _ => pts_nil) (fun _ _ _ _ _ => (pe_ix ix_list (pv 4) (pv 8) (fun _ _ => rfl)))) pa_nil)) pa_nil))))) (pss_one (ps_ret pe_bl)) pss_nil)
      (pss_cons (ps_set (i := 9) sc_law_read.nd rfl (Or.inl rfl) (pe_ix ix_list (pv 5) (pv 7) (fun _ _ => rfl)))
      (pss_cons (ps_expr (pe_bm PySem.F.plainAttrs_list PySem.F.slot_list_append PySem.F.type_list_append mt_append (pv 9) (pa_cons (pe_ix ix_list (pv 4) (pv 2) (fun _ _ => rfl)) pa_nil)))
      (pss_one (ps_expr (pe_bm0 PySem.F.plainAttrs_list PySem.F.slot_list_reverse PySem.F.type_list_reverse mt_reverse (pv 9))))))))
      (pss_cons (ps_set (i := 10) sc_law_read.nd rfl (Or.inl rfl) (pe_meth (pv 0) T.cl_Yard T.mt_Yard_height G_Yard_m_height (hr.mono (by decide)) B_Yard_m_height .nil passL (pa_cons (pe_ix ix_list (pv 4) (pv 2) (fun _ _ => rfl)) pa_nil)))
      (pss_one (ps_ret (pe_and (pe_call G_law_is_integer (hr.mono (by decide)) rfl T.g__law_is_integer K_law_is_integer B_law_is_integer V_law_is_integer pass0 (pa_cons (pv 10) pa_nil)) (pe_one (pe_cmpR op_eq (pv 10) (pe_ix ix_list (pe_ix ix_tup (pv 1) pe_int (fun _ _ => rfl)) (pv 2) (fun _ _ => rfl)) (nomark _))))))))))))
theorem ok_law_made {P : Program} {w : World} {K : PySem.W.Frag} {mg : Str → Option Value} {base : Heap} (T : Txt K mg) (D_law_put : O_law_put P w K mg base) (D_Yard_m_game : O_Yard_m_game P w K mg base) (D_law_is_integer : O_law_is_integer P w K mg base) : O_law_made P w K mg base := by
  obtain ⟨fd_law_put, X_law_put, G_law_put⟩ := D_law_put.ex
  have K_law_put := X_law_put.kp
  have B_law_put := X_law_put.bindsN (ps := ["model", "heights", "lefts", "rights"]) fun _ _ _ _ _ _ us hl => match us, hl with | [_, _, _, _], _ => rfl
  have V_law_put : Vals [] [] := .nil
  obtain ⟨fd_Yard_m_game, X_Yard_m_game, G_Yard_m_game⟩ := D_Yard_m_game.ex
  have K_Yard_m_game := X_Yard_m_game.kp
  have B_Yard_m_game := X_Yard_m_game.bindsN (ps := ["self", "lefts", "rights"]) fun _ _ _ _ _ _ us hl => match us, hl with | [_, _, _], _ => rfl
  have V_Yard_m_game : Vals [] [] := .nil
  obtain ⟨fd_law_is_integer, X_law_is_integer, G_law_is_integer⟩ := D_law_is_integer.ex
  have K_law_is_integer := X_law_is_integer.kp
  have B_law_is_integer := X_law_is_integer.bindsN (ps := ["thing"]) fun _ _ _ _ _ _ us hl => match us, hl with | [_], _ => rfl
  have V_law_is_integer : Vals [] [] := .nil
  obtain ⟨fd, X⟩ := T.d_law_made
  refine ⟨fd, X, X.ok sc_law_made (fun vs H Q E h => len_law_made h) (fun cdv A outer s H vs Q E hr h => ⟨t_law_made P w K E, PSs.nox ?_, pure_law_made vs H Q E h⟩)⟩
  exact (pss_cons (ps_set (i := 3) sc_law_made.nd rfl (Or.inl rfl) (pe_ix ix_tup (pv 1) pe_int (fun _ _ => rfl)))
      (pss_cons (ps_set (i := 4) sc_law_made.nd rfl (Or.inr rfl) (pe_ix ix_tup (pv 1) pe_int (fun _ _ => rfl)))
      (pss_cons (ps_set (i := 5) sc_law_made.nd rfl (Or.inl rfl) (pe_call G_law_put (hr.mono (by decide)) rfl T.g__law_put K_law_put B_law_put V_law_put pass0 (pa_cons (pv 3) (pa_cons (pe_ix ix_tup (pv 1) pe_int (fun _ _ => rfl)) (pa_cons (pe_ix ix_tup (pv 2) pe_int (fun _ _ => rfl)) (pa_cons (pe_ix ix_tup (pv 2) pe_int (fun _ _ => rfl)) pa_nil))))))
      (pss_cons (ps_set (i := 6) sc_law_made.nd rfl (Or.inl rfl) (pe_meth (pv 0) T.cl_Yard T.mt_Yard_game G_Yard_m_game (hr.mono (by decide)) B_Yard_m_game .nil passL (pa_cons (pe_lc (own := [("k", 7)]) (g := (gName 7)) (tt := tYes) rfl sc_law_made.nd (pi_list (pe_ix ix_tup (pv 2) pe_int (fun _ _ => rfl))) (blkOk_by (N := R_law_made) (sc := defScope s_law_made) (by decide +kernel)) (fun _ _ _ _ _ => (pg_name (i := 7) sc_law_made.nd rfl (Or.inl rfl))) (fun _ _ _ _ _ => pts_nil) (fun _ _ _ _ _ => (pe_ix ix_list (pv 4) (pv 7) (fun _ _ => rfl)))) (pa_cons (pe_lc (own := [("k", 7)]) (g := (gName 7)) (tt := tYes) rfl sc_law_made.nd (pi_list (pe_ix ix_tup (pv 2) pe_int (fun _ _ => rfl))) (blkOk_by (N := R_law_made) (sc := defScope s_law_made) (by decide +kernel)) (fun _ _ _ _ _ => (pg_name (i := 7) sc_law_made.nd rfl (Or.inl rfl))) (fun _ _ _ _ _ => pts_nil) (fun _ _ _ _ _ => (pe_ix ix_list (pv 4) (pv 7) (fun _ _ => rfl)))) pa_nil))))
      (Evl.pss_cut (ps_if (pt_cmpR op_eq (pv 5) (pe_callB cr_lenQ rfl T.z_len (by decide +kernel) (pa_cons (pv 4) pa_nil)) (nomark _)) (pss_one (ps_expr (pe_bm PySem.F.plainAttrs_list PySem.F.slot_list_append PySem.F.type_list_append mt_append (pv 4) (pa_cons (pv 6) pa_nil)))) pss_nil)
      (pss_one (ps_ret (pe_and (pe_call G_law_is_integer (hr.mono (by decide)) rfl T.g__law_is_integer K_law_is_integer B_law_is_integer V_law_is_integer pass0 (pa_cons (pv 6) pa_nil)) (pe_one (pe_cmpR op_eq (pv 6) (pe_ix ix_list (pv 4) (pv 5) (fun _ _ => rfl)) (nomark _)))))))))))
theorem ok_law_drawn {P : Program} {w : World} {K : PySem.W.Frag} {mg : Str → Option Value} {base : Heap} (T : Txt K mg)  : O_law_drawn P w K mg base := by
  obtain ⟨fd, X⟩ := T.d_law_drawn
  refine ⟨fd, X, X.ok sc_law_drawn (fun vs H Q E h => len_law_drawn h) (fun cdv A outer s H vs Q E hr h => ⟨t_law_drawn K E, PSs.nox ?_, pure_law_drawn vs H Q E h⟩)⟩
  exact (pss_cons (ps_asg (pe_lc (own := [("k", 5)]) (g := (gName 5)) (tt := (tTest (tOp rLtI (tOp (rIxL K) (tVar 1) (tVar 5)) (tVar 3)))) rfl sc_law_drawn.nd (pi_range1 rfl T.z_range (pa_cons (pe_callB cr_lenQ rfl T.z_len (by decide +kernel) (pa_cons (pv 0) pa_nil)) pa_nil)) (blkOk_by (N := R_law_drawn) (sc := defScope s_law_drawn) (by decide +kernel)) (fun _ _ _ _ _ => (pg_name (i := 5) sc_law_drawn.nd rfl (Or.inl rfl))) (fun _ _ _ _ _ => (pts_one (pt_cmpR op_lt (pe_ix ix_list (pv 1) (pv 5) (fun _ _ => rfl)) (pv 3) (nomark _)))) (fun _ _ _ _ _ => (pv 5))) (pg_name (i := 4) sc_law_drawn.nd rfl (Or.inr rfl)))
      (Evl.pss_cut (ps_if (pt_cmpR op_eq (pe_op op_mod (pe_callTy cr_intI rfl T.z_int (by decide +kernel) (pa_cons (pe_ix ix_list (pv 2) pe_int (fun _ _ => rfl)) pa_nil)) pe_int) pe_int (nomark _)) (pss_one (ps_set (i := 4) sc_law_drawn.nd rfl (Or.inr rfl) (pe_slice sl_list (pv 4) (po_some (pe_un un_neg pe_int)) po_none))) pss_nil)
      (pss_cons (ps_setLc (i := 6) (own := [("k", 5)]) (g := (gName 5)) (tt := tYes) rfl sc_law_drawn.nd rfl rfl (sw_true rfl rfl rfl (by decide +kernel)) (pi_range1 rfl T.z_range (pa_cons (pe_op op_mod (pe_callTy cr_intI rfl T.z_int (by decide +kernel) (pa_cons (pe_ix ix_list (pv 2) pe_int (fun _ _ => rfl)) pa_nil)) pe_int) pa_nil)) (blkOk_by (N := R_law_drawn) (sc := defScope s_law_drawn) (by decide +kernel)) (fun _ _ _ _ _ => (pg_name (i := 5) sc_law_drawn.nd rfl (Or.inl rfl))) (fun _ _ _ _ _ => pts_nil) (fun _ _ _ _ _ => (pe_ix ix_list (pv 4) (pe_op op_mod (pe_callTy cr_intI rfl T.z_int (by decide +kernel) (pa_cons (pe_ix ix_list (pv 2) (pe_op op_add pe_int (pv 5)) (fun _ _ => rfl)) pa_nil)) (pe_callB cr_lenQ rfl T.z_len (by decide +kernel) (pa_cons (pv 4) pa_nil))) (fun _ _ => rfl))))
      (pss_cons (ps_setLc (i := 7) (own := [("k", 5)]) (g := (gName 5)) (tt := tYes) rfl sc_law_drawn.nd rfl rfl (sw_true rfl rfl rfl (by decide +kernel)) (pi_range1 rfl T.z_range (pa_cons (pe_op op_mod (pe_callTy cr_intI rfl T.z_int (by decide +kernel) (pa_cons (pe_ix ix_list (pv 2) pe_int (fun _ _ => rfl)) pa_nil)) pe_int) pa_nil)) (blkOk_by (N := R_law_drawn) (sc := defScope s_law_drawn) (by decide +kernel)) (fun _ _ _ _ _ => (pg_name (i := 5) sc_law_drawn.nd rfl (Or.inl rfl))) (fun _ _ _ _ _ => pts_nil) (fun _ _ _ _ _ => (pe_ix ix_list (pv 4) (pe_op op_mod (pe_callTy cr_intI rfl T.z_int (by decide +kernel) (pa_cons (pe_ix ix_list (pv 2) (pe_op op_add pe_int (pv 5)) (fun _ _ => rfl)) pa_nil)) (pe_callB cr_lenQ rfl T.z_len (by decide +kernel) (pa_cons (pv 4) pa_nil))) (fun _ _ => rfl))))
      (pss_cons (ps_set (i := 8) sc_law_drawn.nd rfl (Or.inl rfl) (pe_ix ix_list (pv 0) (pe_op op_mod (pe_callTy cr_intI rfl T.z_int (by decide +kernel) (pa_cons (pe_ix ix_list (pv 2) pe_int (fun _ _ => rfl)) pa_nil)) (pe_callB cr_lenQ rfl T.z_len (by decide +kernel) (pa_cons (pv 0) pa_nil))) (fun _ _ => rfl)))
      (pss_cons (ps_if (pt_cmpR op_eq (pe_op op_mod (pe_op op_fdiv (pe_ix ix_list (pv 2) pe_int (fun _ _ => rfl)) pe_int) pe_int) pe_int (nomark _)) (pss_one (ps_ret (pe_tup (pa_cons (pe_slice sl_list (pe_op op_cat (pe_ix ix_tup (pv 8) pe_int (fun _ _ => rfl)) (pe_slice sl_list (pv 6) po_none (po_some pe_int))) (po_some (pe_un un_neg pe_int)) po_none) (pa_cons (pe_ix ix_tup (pv 8) pe_int (fun _ _ => rfl)) pa_nil))))) pss_nil)
      (pss_cons (ps_if (pt_cmpR op_eq (pe_op op_mod (pe_op op_fdiv (pe_ix ix_list (pv 2) pe_int (fun _ _ => rfl)) pe_int) pe_int) pe_int (nomark _)) (pss_one (ps_ret (pe_tup (pa_cons (pe_ix ix_tup (pv 8) pe_int (fun _ _ => rfl)) (pa_cons (pe_slice sl_list (pe_op op_cat (pe_ix ix_tup (pv 8) pe_int (fun _ _ => rfl)) (pe_slice sl_list (pv 7) po_none (po_some pe_int))) (po_some (pe_un un_neg pe_int)) po_none) pa_nil))))) pss_nil)
      (pss_one (ps_ret (pe_tup (pa_cons (pv 6) (pa_cons (pv 7) pa_nil))))))))))))
theorem ok_law_deed {P : Program} {w : World} {K : PySem.W.Frag} {mg : Str → Option Value} {base : Heap} (T : Txt K mg) (D_law_turn : O_law_turn P w K mg base) (D_law_refused : O_law_refused P w K mg base) (D_law_read : O_law_read P w K mg base) (D_law_made : O_law_made P w K mg base) (D_law_drawn : O_law_drawn P w K mg base) : O_law_deed P w K mg base := by
  obtain ⟨fd_law_turn, X_law_turn, G_law_turn⟩ := D_law_turn.ex
  have K_law_turn := X_law_turn.kp
  have B_law_turn := X_law_turn.bindsN (ps := ["yard", "state", "at"]) fun _ _ _ _ _ _ us hl => match us, hl with | [_, _, _], _ => rfl
  have V_law_turn : Vals [] [] := .nil
  obtain ⟨fd_law_refused, X_law_refused, G_law_refused⟩ := D_law_refused.ex
  have K_law_refused := X_law_refused.kp
  have B_law_refused := X_law_refused.bindsN (ps := ["yard", "word", "good", "bad"]) fun _ _ _ _ _ _ us hl => match us, hl with | [_, _, _, _], _ => rfl
  have V_law_refused : Vals [] [] := .nil
  obtain ⟨fd_law_read, X_law_read, G_law_read⟩ := D_law_read.ex
  have K_law_read := X_law_read.kp
  have B_law_read := X_law_read.bindsN (ps := ["yard", "state", "at"]) fun _ _ _ _ _ _ us hl => match us, hl with | [_, _, _], _ => rfl
  have V_law_read : Vals [] [] := .nil
  obtain ⟨fd_law_made, X_law_made, G_law_made⟩ := D_law_made.ex
  have K_law_made := X_law_made.kp
  have B_law_made := X_law_made.bindsN (ps := ["yard", "state", "drawn"]) fun _ _ _ _ _ _ us hl => match us, hl with | [_, _, _], _ => rfl
  have V_law_made : Vals [] [] := .nil
  obtain ⟨fd_law_drawn, X_law_drawn, G_law_drawn⟩ := D_law_drawn.ex
  have K_law_drawn := X_law_drawn.kp
  have B_law_drawn := X_law_drawn.bindsN (ps := ["model", "heights", "digits", "most"]) fun _ _ _ _ _ _ us hl => match us, hl with | [_, _, _, _], _ => rfl
  have V_law_drawn : Vals [] [] := .nil
  obtain ⟨fd, X⟩ := T.d_law_deed
  refine ⟨fd, X, X.ok sc_law_deed (fun vs H Q E h => len_law_deed h) (fun cdv A outer s H vs Q E hr h => ⟨t_law_deed P w K E, PSs.nox ?_, pure_law_deed vs H Q E h⟩)⟩
  exact (pss_cons (ps_set (i := 4) sc_law_deed.nd rfl (Or.inl rfl) (pe_ix ix_tup (pv 1) pe_int (fun _ _ => rfl)))
      (pss_cons (ps_set (i := 5) sc_law_deed.nd rfl (Or.inl rfl) (pe_op op_mod (pe_callTy cr_intI rfl T.z_int (by decide +kernel) (pa_cons (pe_ix ix_list (pv 2) pe_int (fun _ _ => rfl)) pa_nil)) (pe_callB cr_lenQ rfl T.z_len (by decide +kernel) (pa_cons (pv 4) pa_nil))))
      (pss_cons (ps_set (i := 6) sc_law_deed.nd rfl (Or.inl rfl) (pe_op op_mod (pe_callTy cr_intI rfl T.z_int (by decide +kernel) (pa_cons (pe_ix ix_list (pv 2) pe_int (fun _ _ => rfl)) pa_nil)) pe_int))
      (pss_cons (ps_if (pt_cmpR op_eq (pv 6) pe_int (nomark _)) (pss_one (ps_ret (pe_call G_law_turn (hr.mono (by decide)) rfl T.g__law_turn K_law_turn B_law_turn V_law_turn pass0 (pa_cons (pv 0) (pa_cons (pv 1) (pa_cons (pv 5) pa_nil)))))) pss_nil)
      (pss_cons (ps_if (pt_cmpR op_eq (pv 6) pe_int (nomark _)) (pss_cons (ps_set (i := 7) sc_law_deed.nd rfl (Or.inl rfl) (pe_op op_mod (pe_callTy cr_intI rfl T.z_int (by decide +kernel) (pa_cons (pv 3) pa_nil)) (pe_op op_pow pe_int pe_int)))
      (pss_cons (ps_for PassesOwn.never rfl (pi_range1 rfl T.z_range (pa_cons pe_int pa_nil)) (pg_name (i := 8) sc_law_deed.nd rfl (Or.inl rfl))
      (pss_one (ps_for PassesOwn.never rfl (pi_list (pe_lst (pa_cons (pe_un un_neg pe_int) (pa_cons (pe_callB cr_lenQ rfl T.z_len (by decide +kernel) (pa_cons (pv 4) pa_nil)) (pa_cons (pe_op op_add (pe_callB cr_lenQ rfl T.z_len (by decide +kernel) (pa_cons (pv 4) pa_nil)) (pv 7)) (pa_cons (pe_op op_sub (pe_un un_neg pe_int) (pv 7)) pa_nil)))))) (pg_name (i := 9) sc_law_deed.nd rfl (Or.inl rfl))
      (pss_one (ps_if (pt_not (pt_val (pe_call G_law_refused (hr.mono (by decide)) rfl T.g__law_refused K_law_refused B_law_refused V_law_refused pass0 (pa_cons (pv 0) (pa_cons (pv 8) (pa_cons (pe_ix ix_list (pe_ix ix_tup (pv 1) pe_int (fun _ _ => rfl)) (pv 5) (fun _ _ => rfl)) (pa_cons (pv 9) pa_nil))))))) (pss_one (ps_ret pe_bl)) pss_nil)))))
      (pss_one (ps_ret pe_bl)))) pss_nil)
      (pss_cons (ps_if (pt_cmpR op_eq (pv 6) pe_int (nomark _)) (pss_one (ps_ret (pe_and (pe_call G_law_read (hr.mono (by decide)) rfl T.g__law_read K_law_read B_law_read V_law_read pass0 (pa_cons (pv 0) (pa_cons (pv 1) (pa_cons (pv 5) pa_nil)))) (pe_one (pe_call G_law_read (hr.mono (by decide)) rfl T.g__law_read K_law_read B_law_read V_law_read pass0 (pa_cons (pv 0) (pa_cons (pv 1) (pa_cons (pe_op op_mod (pe_callTy cr_intI rfl T.z_int (by decide +kernel) (pa_cons (pe_ix ix_list (pv 2) pe_int (fun _ _ => rfl)) pa_nil)) (pe_callB cr_lenQ rfl T.z_len (by decide +kernel) (pa_cons (pv 4) pa_nil))) pa_nil)))))))) pss_nil)
      (pss_cons (ps_if (pt_cmpR op_eq (pv 6) pe_int (nomark _)) (pss_one (ps_ret (pe_call G_law_made (hr.mono (by decide)) rfl T.g__law_made K_law_made B_law_made V_law_made pass0 (pa_cons (pv 0) (pa_cons (pv 1) (pa_cons (pe_ix ix_list (pv 4) (pv 5) (fun _ _ => rfl)) pa_nil)))))) pss_nil)
      (pss_one (ps_ret (pe_call G_law_made (hr.mono (by decide)) rfl T.g__law_made K_law_made B_law_made V_law_made pass0 (pa_cons (pv 0) (pa_cons (pv 1) (pa_cons (pe_call G_law_drawn (hr.mono (by decide)) rfl T.g__law_drawn K_law_drawn B_law_drawn V_law_drawn pass0 (pa_cons (pv 4) (pa_cons (pe_ix ix_tup (pv 1) pe_int (fun _ _ => rfl)) (pa_cons (pv 2) (pa_cons pe_int pa_nil))))) pa_nil)))))))))))))
theorem ok_law_whole {P : Program} {w : World} {K : PySem.W.Frag} {mg : Str → Option Value} {base : Heap} (T : Txt K mg) (D_law_all_integers : O_law_all_integers P w K mg base) (D_law_read : O_law_read P w K mg base) (D_law_turn : O_law_turn P w K mg base) : O_law_whole P w K mg base := by
  obtain ⟨fd_law_all_integers, X_law_all_integers, G_law_all_integers⟩ := D_law_all_integers.ex
  have K_law_all_integers := X_law_all_integers.kp
  have B_law_all_integers := X_law_all_integers.bindsN (ps := ["numbers"]) fun _ _ _ _ _ _ us hl => match us, hl with | [_], _ => rfl
  have V_law_all_integers : Vals [] [] := .nil
  obtain ⟨fd_law_read, X_law_read, G_law_read⟩ := D_law_read.ex
  have K_law_read := X_law_read.kp
  have B_law_read := X_law_read.bindsN (ps := ["yard", "state", "at"]) fun _ _ _ _ _ _ us hl => match us, hl with | [_, _, _], _ => rfl
  have V_law_read : Vals [] [] := .nil
  obtain ⟨fd_law_turn, X_law_turn, G_law_turn⟩ := D_law_turn.ex
  have K_law_turn := X_law_turn.kp
  have B_law_turn := X_law_turn.bindsN (ps := ["yard", "state", "at"]) fun _ _ _ _ _ _ us hl => match us, hl with | [_, _, _], _ => rfl
  have V_law_turn : Vals [] [] := .nil
  obtain ⟨fd, X⟩ := T.d_law_whole
  refine ⟨fd, X, X.ok sc_law_whole (fun vs H Q E h => len_law_whole h) (fun cdv A outer s H vs Q E hr h => ⟨t_law_whole P w K E, PSs.nox ?_, pure_law_whole vs H Q E h⟩)⟩
  exact (pss_cons (ps_set (i := 2) sc_law_whole.nd rfl (Or.inl rfl) (pe_ix ix_tup (pv 1) pe_int (fun _ _ => rfl)))
      (pss_cons (ps_if (PW.pt (pw_or (pt_not (pt_val (pe_call G_law_all_integers (hr.mono (by decide)) rfl T.g__law_all_integers K_law_all_integers B_law_all_integers V_law_all_integers pass0 (pa_cons (pv 2) pa_nil)))) (pw_or1 (pt_cmpR (op_neD hr.units) (pe_callB cr_sortedI rfl T.z_sorted (by decide +kernel) (pa_cons (pv 2) pa_nil)) (pe_lc (own := [("k", 3)]) (g := (gName 3)) (tt := tYes) rfl sc_law_whole.nd (pi_range1 rfl T.z_range (pa_cons (pe_callB cr_lenQ rfl T.z_len (by decide +kernel) (pa_cons (pe_ix ix_tup (pv 1) pe_int (fun _ _ => rfl)) pa_nil)) pa_nil)) (blkOk_by (N := R_law_whole) (sc := defScope s_law_whole) (by decide +kernel)) (fun _ _ _ _ _ => (pg_name (i := 3) sc_law_whole.nd rfl (Or.inl rfl))) (fun _ _ _ _ _ => pts_nil) (fun _ _ _ _ _ => (pv 3))) (nomark _))))) (pss_one (ps_ret pe_bl)) pss_nil)
      (pss_cons (ps_for PassesOwn.never rfl (pi_range1 rfl T.z_range (pa_cons (pe_callB cr_lenQ rfl T.z_len (by decide +kernel) (pa_cons (pv 2) pa_nil)) pa_nil)) (pg_name (i := 4) sc_law_whole.nd rfl (Or.inl rfl))
      (pss_one (ps_if (pt_not (pt_val (pe_call G_law_read (hr.mono (by decide)) rfl T.g__law_read K_law_read B_law_read V_law_read pass0 (pa_cons (pv 0) (pa_cons (pv 1) (pa_cons (pv 4) pa_nil)))))) (pss_one (ps_ret pe_bl)) pss_nil)))
      (pss_cons (ps_if (PW.pt (pw_or (pt_not (pt_val (pe_call G_law_turn (hr.mono (by decide)) rfl T.g__law_turn K_law_turn B_law_turn V_law_turn pass0 (pa_cons (pv 0) (pa_cons (pv 1) (pa_cons (pe_op op_sub (pe_callB cr_lenQ rfl T.z_len (by decide +kernel) (pa_cons (pv 2) pa_nil)) pe_int) pa_nil)))))) (pw_or1 (pt_not (pt_val (pe_call G_law_turn (hr.mono (by decide)) rfl T.g__law_turn K_law_turn B_law_turn V_law_turn pass0 (pa_cons (pv 0) (pa_cons (pv 1) (pa_cons (pe_op op_fdiv (pe_callB cr_lenQ rfl T.z_len (by decide +kernel) (pa_cons (pv 2) pa_nil)) pe_int) pa_nil))))))))) (pss_one (ps_ret pe_bl)) pss_nil)
      (pss_one (ps_ret (pe_call G_law_read (hr.mono (by decide)) rfl T.g__law_read K_law_read B_law_read V_law_read pass0 (pa_cons (pv 0) (pa_cons (pv 1) (pa_cons (pe_op op_sub (pe_callB cr_lenQ rfl T.z_len (by decide +kernel) (pa_cons (pv 2) pa_nil)) pe_int) pa_nil))))))))))
theorem ok_law {P : Program} {w : World} {K : PySem.W.Frag} {mg : Str → Option Value} {base : Heap} (T : Txt K mg) (D_Yard_d_init : O_Yard_d_init P w K mg base) (D_law_cell : O_law_cell P w K mg base) (D_law_digits : O_law_digits P w K mg base) (D_law_deed : O_law_deed P w K mg base) (D_Yard_m_size : O_Yard_m_size P w K mg base) (D_law_is_integer : O_law_is_integer P w K mg base) (D_law_whole : O_law_whole P w K mg base) : O_law P w K mg base := by
  obtain ⟨fd_Yard_d_init, X_Yard_d_init, G_Yard_d_init⟩ := D_Yard_d_init.ex
  have K_Yard_d_init := X_Yard_d_init.kp
  have B_Yard_d_init := X_Yard_d_init.bindsN (ps := ["self"]) fun _ _ _ _ _ _ us hl => match us, hl with | [_], _ => rfl
  have V_Yard_d_init : Vals [] [] := .nil
  obtain ⟨fd_law_cell, X_law_cell, G_law_cell⟩ := D_law_cell.ex
  have K_law_cell := X_law_cell.kp
  have B_law_cell := X_law_cell.bindsN (ps := ["script", "k"]) fun _ _ _ _ _ _ us hl => match us, hl with | [_, _], _ => rfl
  have V_law_cell : Vals [] [] := .nil
  obtain ⟨fd_law_digits, X_law_digits, G_law_digits⟩ := D_law_digits.ex
  have K_law_digits := X_law_digits.kp
  have B_law_digits := X_law_digits.bindsN (ps := ["cell", "count"]) fun _ _ _ _ _ _ us hl => match us, hl with | [_, _], _ => rfl
  have V_law_digits : Vals [] [] := .nil
  obtain ⟨fd_law_deed, X_law_deed, G_law_deed⟩ := D_law_deed.ex
  have K_law_deed := X_law_deed.kp
  have B_law_deed := X_law_deed.bindsN (ps := ["yard", "state", "digits", "cell"]) fun _ _ _ _ _ _ us hl => match us, hl with | [_, _, _, _], _ => rfl
  have V_law_deed : Vals [] [] := .nil
  obtain ⟨fd_Yard_m_size, X_Yard_m_size, G_Yard_m_size⟩ := D_Yard_m_size.ex
  have K_Yard_m_size := X_Yard_m_size.kp
  have B_Yard_m_size := X_Yard_m_size.bindsN (ps := ["self"]) fun _ _ _ _ _ _ us hl => match us, hl with | [_], _ => rfl
  have V_Yard_m_size : Vals [] [] := .nil
  obtain ⟨fd_law_is_integer, X_law_is_integer, G_law_is_integer⟩ := D_law_is_integer.ex
  have K_law_is_integer := X_law_is_integer.kp
  have B_law_is_integer := X_law_is_integer.bindsN (ps := ["thing"]) fun _ _ _ _ _ _ us hl => match us, hl with | [_], _ => rfl
  have V_law_is_integer : Vals [] [] := .nil
  obtain ⟨fd_law_whole, X_law_whole, G_law_whole⟩ := D_law_whole.ex
  have K_law_whole := X_law_whole.kp
  have B_law_whole := X_law_whole.bindsN (ps := ["yard", "state"]) fun _ _ _ _ _ _ us hl => match us, hl with | [_, _], _ => rfl
  have V_law_whole : Vals [] [] := .nil
  obtain ⟨fd, X⟩ := T.d_law
  refine ⟨fd, X, X.ok sc_law (fun vs H Q E h => len_law h) (fun cdv A outer s H vs Q E hr h => ⟨t_law P w K E, PSs.nox ?_, pure_law vs H Q E h⟩)⟩
  exact (pss_cons (ps_set (i := 1) sc_law.nd rfl (Or.inl rfl) (pe_lst (pa_cons (pe_make0 T.mk_Yard G_Yard_d_init (hr.mono (by decide)) rfl T.g_Yard B_Yard_d_init V_Yard_d_init pass0) (pa_cons (pe_make0 T.mk_Yard G_Yard_d_init (hr.mono (by decide)) rfl T.g_Yard B_Yard_d_init V_Yard_d_init pass0) pa_nil))))
      (pss_cons (ps_set (i := 2) sc_law.nd rfl (Or.inl rfl) (pe_lst (pa_cons (pe_tup (pa_cons (pe_lst (pa_cons (pe_tup (pa_cons (pe_lst pa_nil) (pa_cons (pe_lst pa_nil) pa_nil))) pa_nil)) (pa_cons (pe_lst (pa_cons pe_int pa_nil)) (pa_cons (pe_lst (pa_cons pe_int pa_nil)) pa_nil)))) (pa_cons (pe_tup (pa_cons (pe_lst (pa_cons (pe_tup (pa_cons (pe_lst pa_nil) (pa_cons (pe_lst pa_nil) pa_nil))) pa_nil)) (pa_cons (pe_lst (pa_cons pe_int pa_nil)) (pa_cons (pe_lst (pa_cons pe_int pa_nil)) pa_nil)))) pa_nil))))
      (pss_cons (ps_for PassesOwn.never rfl (pi_range1 rfl T.z_range (pa_cons (pe_callB (cr_max2 rfl) rfl T.z_max (by decide +kernel) (pa_cons pe_int (pa_cons (pe_callB (cr_min2 rfl) rfl T.z_min (by decide +kernel) (pa_cons pe_int (pa_cons (pe_callB cr_lenQ rfl T.z_len (by decide +kernel) (pa_cons (pv 0) pa_nil)) pa_nil))) pa_nil))) pa_nil)) (pg_name (i := 3) sc_law.nd rfl (Or.inl rfl))
      (pss_cons (ps_set (i := 4) sc_law.nd rfl (Or.inl rfl) (pe_call G_law_cell (hr.mono (by decide)) rfl T.g__law_cell K_law_cell B_law_cell V_law_cell pass0 (pa_cons (pv 0) (pa_cons (pv 3) pa_nil))))
      (pss_cons (ps_set (i := 5) sc_law.nd rfl (Or.inl rfl) (pe_call G_law_digits (hr.mono (by decide)) rfl T.g__law_digits K_law_digits B_law_digits V_law_digits pass0 (pa_cons (pv 4) (pa_cons pe_int pa_nil))))
      (pss_cons (ps_set (i := 6) sc_law.nd rfl (Or.inl rfl) (pe_op op_mod (pe_callTy cr_intI rfl T.z_int (by decide +kernel) (pa_cons (pe_ix ix_list (pv 5) pe_int (fun _ _ => rfl)) pa_nil)) pe_int))
      (pss_cons (ps_if (pt_not (pt_val (pe_call G_law_deed (hr.mono (by decide)) rfl T.g__law_deed K_law_deed B_law_deed V_law_deed pass0 (pa_cons (pe_ix ix_list (pv 1) (pv 6) (fun _ _ => rfl)) (pa_cons (pe_ix ix_list (pv 2) (pv 6) (fun _ _ => rfl)) (pa_cons (pv 5) (pa_cons (pv 4) pa_nil))))))) (pss_one (ps_ret pe_bl)) pss_nil)
      (pss_one (ps_for PassesOwn.never rfl (pi_range1 rfl T.z_range (pa_cons pe_int pa_nil)) (pg_name (i := 7) sc_law.nd rfl (Or.inl rfl))
      (pss_cons (ps_set (i := 8) sc_law.nd rfl (Or.inl rfl) (pe_prop (pe_ix ix_list (pv 1) (pv 7) (fun _ _ => rfl)) T.cl_Yard T.pr_Yard_size G_Yard_m_size (hr.mono (by decide)) B_Yard_m_size .nil pass0 (by rfl)))
      (pss_one (ps_if (PW.pt (pw_or (pt_not (pt_val (pe_call G_law_is_integer (hr.mono (by decide)) rfl T.g__law_is_integer K_law_is_integer B_law_is_integer V_law_is_integer pass0 (pa_cons (pv 8) pa_nil)))) (pw_or1 (pt_cmpR op_ne (pv 8) (pe_callB cr_lenQ rfl T.z_len (by decide +kernel) (pa_cons (pe_ix ix_tup (pe_ix ix_list (pv 2) (pv 7) (fun _ _ => rfl)) pe_int (fun _ _ => rfl)) pa_nil)) (nomark _))))) (pss_one (ps_ret pe_bl)) pss_nil))))))))))
      (pss_one (ps_ret (pe_and (pe_call G_law_whole (hr.mono (by decide)) rfl T.g__law_whole K_law_whole B_law_whole V_law_whole pass0 (pa_cons (pe_ix ix_list (pv 1) pe_int (fun _ _ => rfl)) (pa_cons (pe_ix ix_list (pv 2) pe_int (fun _ _ => rfl)) pa_nil))) (pe_one (pe_call G_law_whole (hr.mono (by decide)) rfl T.g__law_whole K_law_whole B_law_whole V_law_whole pass0 (pa_cons (pe_ix ix_list (pv 1) pe_int (fun _ _ => rfl)) (pa_cons (pe_ix ix_list (pv 2) pe_int (fun _ _ => rfl)) pa_nil))))))))))
theorem all_ok {P : Program} {w : World} {K : PySem.W.Frag} {mg : Str → Option Value} {base : Heap} (T : Txt K mg) : O_law P w K mg base := by
  have h_Yard_d_init : O_Yard_d_init P w K mg base := ok_Yard_d_init T 
  have h_law_cell : O_law_cell P w K mg base := ok_law_cell T 
  have h_law_digits : O_law_digits P w K mg base := ok_law_digits T 
  have h_Yard_m_check : O_Yard_m_check P w K mg base := ok_Yard_m_check T 
  have h_Yard_m_reached : O_Yard_m_reached P w K mg base := ok_Yard_m_reached T h_Yard_m_check
  have h_Yard_p_kept : O_Yard_p_kept P w K mg base := ok_Yard_p_kept T 
  have h_Yard_p_turn : O_Yard_p_turn P w K mg base := ok_Yard_p_turn T h_Yard_p_kept
  have h_Yard_m_turned : O_Yard_m_turned P w K mg base := ok_Yard_m_turned T h_Yard_m_reached h_Yard_p_turn
  have h_law_followers : O_law_followers P w K mg base := ok_law_followers T 
  have h_law_put : O_law_put P w K mg base := ok_law_put T 
  have h_law_is_integer : O_law_is_integer P w K mg base := ok_law_is_integer T 
  have h_Yard_m_size : O_Yard_m_size P w K mg base := ok_Yard_m_size T 
  have h_Yard_m_game : O_Yard_m_game P w K mg base := ok_Yard_m_game T h_Yard_m_check h_Yard_p_kept
  have h_law_turn : O_law_turn P w K mg base := ok_law_turn T h_Yard_m_turned h_law_followers h_law_put h_law_is_integer h_Yard_m_size h_Yard_m_game
  have h_Yard_m_lefts : O_Yard_m_lefts P w K mg base := ok_Yard_m_lefts T h_Yard_m_check
  have h_Yard_m_rights : O_Yard_m_rights P w K mg base := ok_Yard_m_rights T h_Yard_m_check
  have h_Yard_m_options : O_Yard_m_options P w K mg base := ok_Yard_m_options T h_Yard_m_lefts h_Yard_m_rights
  have h_Yard_m_height : O_Yard_m_height P w K mg base := ok_Yard_m_height T h_Yard_m_check
  have h_Yard_m_followers : O_Yard_m_followers P w K mg base := ok_Yard_m_followers T h_Yard_m_reached
  have h_law_is_unknown : O_law_is_unknown P w K mg base := ok_law_is_unknown T 
  have h_law_refused : O_law_refused P w K mg base := ok_law_refused T h_Yard_m_game h_Yard_m_lefts h_Yard_m_rights h_Yard_m_options h_Yard_m_height h_Yard_m_followers h_Yard_m_turned h_law_is_unknown
  have h_law_all_integers : O_law_all_integers P w K mg base := ok_law_all_integers T h_law_is_integer
  have h_law_is_list : O_law_is_list P w K mg base := ok_law_is_list T h_law_all_integers
  have h_law_read : O_law_read P w K mg base := ok_law_read T h_Yard_m_lefts h_Yard_m_rights h_Yard_m_followers h_law_followers h_law_is_list h_Yard_m_height h_law_is_integer
  have h_law_made : O_law_made P w K mg base := ok_law_made T h_law_put h_Yard_m_game h_law_is_integer
  have h_law_drawn : O_law_drawn P w K mg base := ok_law_drawn T 
  have h_law_deed : O_law_deed P w K mg base := ok_law_deed T h_law_turn h_law_refused h_law_read h_law_made h_law_drawn
  have h_law_whole : O_law_whole P w K mg base := ok_law_whole T h_law_all_integers h_law_read h_law_turn
  have h_law : O_law P w K mg base := ok_law T h_Yard_d_init h_law_cell h_law_digits h_law_deed h_Yard_m_size h_law_is_integer h_law_whole
  exact h_law
def addrs : List PySem.Addr := ([3, 24, 37, 49, 61, 73, 173, 184, 191, 198, 203, 208, 213, 220, 227, 234, 239, 244, 249, 254, 261, 266, 273, 23, 60, 172, 183, 190, 197, 202, 207, 212, 219, 226, 233, 238, 243, 248, 253, 260] : List PySem.Addr) ++ ([265, 272, 89, 97, 104, 111, 118, 125, 132, 139, 146, 153, 160, 165, 170, 88, 96, 103, 110, 117, 124, 131, 138, 145, 152, 159, 164, 169, 95] : List PySem.Addr)
def fs : List (PySem.W.Frag → Bool) := [fun K => (He.Fa.glo "BadText").ok K,
  fun K => (He.Fa.glo "BadValue").ok K,
  fun K => (He.Fa.glo "NoMove").ok K,
  fun K => (He.Fa.glo "PlayError").ok K,
  fun K => (He.Fa.glo "Unknown").ok K,
  fun K => (He.Fa.glo "Yard").ok K,
  fun K => (He.Fa.glo "_law_all_integers").ok K,
  fun K => (He.Fa.glo "_law_cell").ok K,
  fun K => (He.Fa.glo "_law_deed").ok K,
  fun K => (He.Fa.glo "_law_digits").ok K,
  fun K => (He.Fa.glo "_law_drawn").ok K,
  fun K => (He.Fa.glo "_law_followers").ok K,
  fun K => (He.Fa.glo "_law_is_integer").ok K,
  fun K => (He.Fa.glo "_law_is_list").ok K,
  fun K => (He.Fa.glo "_law_is_unknown").ok K,
  fun K => (He.Fa.glo "_law_made").ok K,
  fun K => (He.Fa.glo "_law_put").ok K,
  fun K => (He.Fa.glo "_law_read").ok K,
  fun K => (He.Fa.glo "_law_refused").ok K,
  fun K => (He.Fa.glo "_law_turn").ok K,
  fun K => (He.Fa.glo "_law_whole").ok K,
  fun K => (He.Fa.glo "law").ok K,
  fun K => (He.Fa.free "ValueError").ok K,
  fun K => (He.Fa.free "bool").ok K,
  fun K => (He.Fa.free "int").ok K,
  fun K => (He.Fa.free "isinstance").ok K,
  fun K => (He.Fa.free "len").ok K,
  fun K => (He.Fa.free "list").ok K,
  fun K => (He.Fa.free "max").ok K,
  fun K => (He.Fa.free "min").ok K,
  fun K => (He.Fa.free "range").ok K,
  fun K => (He.Fa.free "set").ok K,
  fun K => (He.Fa.free "sorted").ok K,
  fun K => (He.Fa.free "tuple").ok K,
  fun K => (He.Fa.cls "Yard").ok K,
  fun K => (He.Fa.exc "Unknown").ok K,
  fun K => excCB K "Unknown",
  fun K => decide (PySem.W.exmOne K (.ref (He.ga K "Unknown")) (.ref (He.ga K "PlayError")) = some true),
  fun K => decide (PySem.W.kitOne K (.ref (He.ga K "Unknown")) (.ref (He.ga K "BadText")) = some false),
  fun K => decide (PySem.W.kitOne K (.ref (He.ga K "Unknown")) (.ref (He.ga K "BadValue")) = some false),
  fun K => decide (PySem.W.kitOne K (.ref (He.ga K "Unknown")) (.ref (He.ga K "NoMove")) = some false),
  fun K => decide (PySem.W.kitOne K (.ref (He.ga K "Unknown")) (.ref (He.ga K "Unknown")) = some true),
  fun K => decide (PySem.W.kitOne K (.ref (He.ga K "Unknown")) (.type "ValueError") = some true),
  fun K => (He.Fa.meth "Yard" "_kept").ok K,
  fun K => (He.Fa.meth "Yard" "_turn").ok K,
  fun K => (He.Fa.meth "Yard" "check").ok K,
  fun K => (He.Fa.meth "Yard" "followers").ok K,
  fun K => (He.Fa.meth "Yard" "game").ok K,
  fun K => (He.Fa.meth "Yard" "height").ok K,
  fun K => (He.Fa.meth "Yard" "lefts").ok K,
  fun K => (He.Fa.meth "Yard" "options").ok K,
  fun K => (He.Fa.meth "Yard" "reached").ok K,
  fun K => (He.Fa.meth "Yard" "rights").ok K,
  fun K => (He.Fa.meth "Yard" "turned").ok K,
  fun K => (He.Fa.mkr "Yard").ok K,
  fun K => (He.Fa.noat "Yard" "_heights").ok K,
  fun K => (He.Fa.noat "Yard" "_lefts").ok K,
  fun K => (He.Fa.noat "Yard" "_numbers").ok K,
  fun K => (He.Fa.noat "Yard" "_rights").ok K,
  fun K => (He.Fa.noat "Yard" "_turned").ok K,
  fun K => propB K "Yard" "size"]
def fn : List He5.DefA := [{ at_ := fun K => ad_Yard_d_init K, name := "__init__", qual := "Yard.__init__", params := defArgs s_Yard_d_init, body := defBody s_Yard_d_init, scope := defScope s_Yard_d_init, dfl := [] },
  { at_ := fun K => ad_law_cell K, name := "_law_cell", qual := "_law_cell", params := defArgs s_law_cell, body := defBody s_law_cell, scope := defScope s_law_cell, dfl := [] },
  { at_ := fun K => ad_law_digits K, name := "_law_digits", qual := "_law_digits", params := defArgs s_law_digits, body := defBody s_law_digits, scope := defScope s_law_digits, dfl := [] },
  { at_ := fun K => ad_Yard_m_check K, name := "check", qual := "Yard.check", params := defArgs s_Yard_m_check, body := defBody s_Yard_m_check, scope := defScope s_Yard_m_check, dfl := [] },
  { at_ := fun K => ad_Yard_m_reached K, name := "reached", qual := "Yard.reached", params := defArgs s_Yard_m_reached, body := defBody s_Yard_m_reached, scope := defScope s_Yard_m_reached, dfl := [] },
  { at_ := fun K => ad_Yard_p_kept K, name := "_kept", qual := "Yard._kept", params := defArgs s_Yard_p_kept, body := defBody s_Yard_p_kept, scope := defScope s_Yard_p_kept, dfl := [] },
  { at_ := fun K => ad_Yard_p_turn K, name := "_turn", qual := "Yard._turn", params := defArgs s_Yard_p_turn, body := defBody s_Yard_p_turn, scope := defScope s_Yard_p_turn, dfl := [] },
  { at_ := fun K => ad_Yard_m_turned K, name := "turned", qual := "Yard.turned", params := defArgs s_Yard_m_turned, body := defBody s_Yard_m_turned, scope := defScope s_Yard_m_turned, dfl := [] },
  { at_ := fun K => ad_law_followers K, name := "_law_followers", qual := "_law_followers", params := defArgs s_law_followers, body := defBody s_law_followers, scope := defScope s_law_followers, dfl := [] },
  { at_ := fun K => ad_law_put K, name := "_law_put", qual := "_law_put", params := defArgs s_law_put, body := defBody s_law_put, scope := defScope s_law_put, dfl := [] },
  { at_ := fun K => ad_law_is_integer K, name := "_law_is_integer", qual := "_law_is_integer", params := defArgs s_law_is_integer, body := defBody s_law_is_integer, scope := defScope s_law_is_integer, dfl := [] },
  { at_ := fun K => ad_Yard_m_size K, name := "size", qual := "Yard.size", params := defArgs s_Yard_m_size, body := defBody s_Yard_m_size, scope := defScope s_Yard_m_size, dfl := [] },
  { at_ := fun K => ad_Yard_m_game K, name := "game", qual := "Yard.game", params := defArgs s_Yard_m_game, body := defBody s_Yard_m_game, scope := defScope s_Yard_m_game, dfl := [] },
  { at_ := fun K => ad_law_turn K, name := "_law_turn", qual := "_law_turn", params := defArgs s_law_turn, body := defBody s_law_turn, scope := defScope s_law_turn, dfl := [] },
  { at_ := fun K => ad_Yard_m_lefts K, name := "lefts", qual := "Yard.lefts", params := defArgs s_Yard_m_lefts, body := defBody s_Yard_m_lefts, scope := defScope s_Yard_m_lefts, dfl := [] },
  { at_ := fun K => ad_Yard_m_rights K, name := "rights", qual := "Yard.rights", params := defArgs s_Yard_m_rights, body := defBody s_Yard_m_rights, scope := defScope s_Yard_m_rights, dfl := [] },
  { at_ := fun K => ad_Yard_m_options K, name := "options", qual := "Yard.options", params := defArgs s_Yard_m_options, body := defBody s_Yard_m_options, scope := defScope s_Yard_m_options, dfl := [] },
  { at_ := fun K => ad_Yard_m_height K, name := "height", qual := "Yard.height", params := defArgs s_Yard_m_height, body := defBody s_Yard_m_height, scope := defScope s_Yard_m_height, dfl := [] },
  { at_ := fun K => ad_Yard_m_followers K, name := "followers", qual := "Yard.followers", params := defArgs s_Yard_m_followers, body := defBody s_Yard_m_followers, scope := defScope s_Yard_m_followers, dfl := [] },
  { at_ := fun K => ad_law_is_unknown K, name := "_law_is_unknown", qual := "_law_is_unknown", params := defArgs s_law_is_unknown, body := defBody s_law_is_unknown, scope := defScope s_law_is_unknown, dfl := [] },
  { at_ := fun K => ad_law_refused K, name := "_law_refused", qual := "_law_refused", params := defArgs s_law_refused, body := defBody s_law_refused, scope := defScope s_law_refused, dfl := [] },
  { at_ := fun K => ad_law_all_integers K, name := "_law_all_integers", qual := "_law_all_integers", params := defArgs s_law_all_integers, body := defBody s_law_all_integers, scope := defScope s_law_all_integers, dfl := [] },
  { at_ := fun K => ad_law_is_list K, name := "_law_is_list", qual := "_law_is_list", params := defArgs s_law_is_list, body := defBody s_law_is_list, scope := defScope s_law_is_list, dfl := [] },
  { at_ := fun K => ad_law_read K, name := "_law_read", qual := "_law_read", params := defArgs s_law_read, body := defBody s_law_read, scope := defScope s_law_read, dfl := [] },
  { at_ := fun K => ad_law_made K, name := "_law_made", qual := "_law_made", params := defArgs s_law_made, body := defBody s_law_made, scope := defScope s_law_made, dfl := [] },
  { at_ := fun K => ad_law_drawn K, name := "_law_drawn", qual := "_law_drawn", params := defArgs s_law_drawn, body := defBody s_law_drawn, scope := defScope s_law_drawn, dfl := [] },
  { at_ := fun K => ad_law_deed K, name := "_law_deed", qual := "_law_deed", params := defArgs s_law_deed, body := defBody s_law_deed, scope := defScope s_law_deed, dfl := [] },
  { at_ := fun K => ad_law_whole K, name := "_law_whole", qual := "_law_whole", params := defArgs s_law_whole, body := defBody s_law_whole, scope := defScope s_law_whole, dfl := [] },
  { at_ := fun K => ad_law K, name := "law", qual := "law", params := defArgs s_law, body := defBody s_law, scope := defScope s_law, dfl := [] }]
theorem txt_of {K : PySem.W.Frag} {h : Heap} {mg : Str → Option Value} (X : K.In h) (G : h.Ns mainGlobals mg) (c : SaysM fs fn K) : Txt K mg where
  g_BadText := He.glo_ok X G (c.fact 0 rfl)
  g_BadValue := He.glo_ok X G (c.fact 1 rfl)
  g_NoMove := He.glo_ok X G (c.fact 2 rfl)
  g_PlayError := He.glo_ok X G (c.fact 3 rfl)
  g_Unknown := He.glo_ok X G (c.fact 4 rfl)
  g_Yard := He.glo_ok X G (c.fact 5 rfl)
  g__law_all_integers := He.glo_ok X G (c.fact 6 rfl)
  g__law_cell := He.glo_ok X G (c.fact 7 rfl)
  g__law_deed := He.glo_ok X G (c.fact 8 rfl)
  g__law_digits := He.glo_ok X G (c.fact 9 rfl)
  g__law_drawn := He.glo_ok X G (c.fact 10 rfl)
  g__law_followers := He.glo_ok X G (c.fact 11 rfl)
  g__law_is_integer := He.glo_ok X G (c.fact 12 rfl)
  g__law_is_list := He.glo_ok X G (c.fact 13 rfl)
  g__law_is_unknown := He.glo_ok X G (c.fact 14 rfl)
  g__law_made := He.glo_ok X G (c.fact 15 rfl)
  g__law_put := He.glo_ok X G (c.fact 16 rfl)
  g__law_read := He.glo_ok X G (c.fact 17 rfl)
  g__law_refused := He.glo_ok X G (c.fact 18 rfl)
  g__law_turn := He.glo_ok X G (c.fact 19 rfl)
  g__law_whole := He.glo_ok X G (c.fact 20 rfl)
  g_law := He.glo_ok X G (c.fact 21 rfl)
  z_ValueError := He.free_ok X G (c.fact 22 rfl)
  z_bool := He.free_ok X G (c.fact 23 rfl)
  z_int := He.free_ok X G (c.fact 24 rfl)
  z_isinstance := He.free_ok X G (c.fact 25 rfl)
  z_len := He.free_ok X G (c.fact 26 rfl)
  z_list := He.free_ok X G (c.fact 27 rfl)
  z_max := He.free_ok X G (c.fact 28 rfl)
  z_min := He.free_ok X G (c.fact 29 rfl)
  z_range := He.free_ok X G (c.fact 30 rfl)
  z_set := He.free_ok X G (c.fact 31 rfl)
  z_sorted := He.free_ok X G (c.fact 32 rfl)
  z_tuple := He.free_ok X G (c.fact 33 rfl)
  cl_Yard := He.cls_ok (c.fact 34 rfl)
  x_Unknown := He.exc_ok (c.fact 35 rfl)
  xc_Unknown := excC_ok (c.fact 36 rfl)
  em_Unknown_PlayError := of_decide_eq_true (c.fact 37 rfl)
  ki_Unknown_BadText := of_decide_eq_true (c.fact 38 rfl)
  ki_Unknown_BadValue := of_decide_eq_true (c.fact 39 rfl)
  ki_Unknown_NoMove := of_decide_eq_true (c.fact 40 rfl)
  ki_Unknown_Unknown := of_decide_eq_true (c.fact 41 rfl)
  ki_Unknown_ValueError := of_decide_eq_true (c.fact 42 rfl)
  mt_Yard__kept := He.meth_ok (c.fact 43 rfl)
  mt_Yard__turn := He.meth_ok (c.fact 44 rfl)
  mt_Yard_check := He.meth_ok (c.fact 45 rfl)
  mt_Yard_followers := He.meth_ok (c.fact 46 rfl)
  mt_Yard_game := He.meth_ok (c.fact 47 rfl)
  mt_Yard_height := He.meth_ok (c.fact 48 rfl)
  mt_Yard_lefts := He.meth_ok (c.fact 49 rfl)
  mt_Yard_options := He.meth_ok (c.fact 50 rfl)
  mt_Yard_reached := He.meth_ok (c.fact 51 rfl)
  mt_Yard_rights := He.meth_ok (c.fact 52 rfl)
  mt_Yard_turned := He.meth_ok (c.fact 53 rfl)
  mk_Yard := He.mkr_ok (c.fact 54 rfl)
  na_Yard__heights := He.noat_ok (c.fact 55 rfl)
  na_Yard__lefts := He.noat_ok (c.fact 56 rfl)
  na_Yard__numbers := He.noat_ok (c.fact 57 rfl)
  na_Yard__rights := He.noat_ok (c.fact 58 rfl)
  na_Yard__turned := He.noat_ok (c.fact 59 rfl)
  pr_Yard_size := prop_ok (c.fact 60 rfl)
  d_Yard_d_init := c.dfn 0 rfl
  d_law_cell := c.dfn 1 rfl
  d_law_digits := c.dfn 2 rfl
  d_Yard_m_check := c.dfn 3 rfl
  d_Yard_m_reached := c.dfn 4 rfl
  d_Yard_p_kept := c.dfn 5 rfl
  d_Yard_p_turn := c.dfn 6 rfl
  d_Yard_m_turned := c.dfn 7 rfl
  d_law_followers := c.dfn 8 rfl
  d_law_put := c.dfn 9 rfl
  d_law_is_integer := c.dfn 10 rfl
  d_Yard_m_size := c.dfn 11 rfl
  d_Yard_m_game := c.dfn 12 rfl
  d_law_turn := c.dfn 13 rfl
  d_Yard_m_lefts := c.dfn 14 rfl
  d_Yard_m_rights := c.dfn 15 rfl
  d_Yard_m_options := c.dfn 16 rfl
  d_Yard_m_height := c.dfn 17 rfl
  d_Yard_m_followers := c.dfn 18 rfl
  d_law_is_unknown := c.dfn 19 rfl
  d_law_refused := c.dfn 20 rfl
  d_law_all_integers := c.dfn 21 rfl
  d_law_is_list := c.dfn 22 rfl
  d_law_read := c.dfn 23 rfl
  d_law_made := c.dfn 24 rfl
  d_law_drawn := c.dfn 25 rfl
  d_law_deed := c.dfn 26 rfl
  d_law_whole := c.dfn 27 rfl
  d_law := c.dfn 28 rfl
def loose : List PySem.Str := (["PlayError", "BadValue", "BadText", "Unknown", "NoMove", "Yard", "_law_cell", "_law_digits", "_law_is_integer", "_law_put", "_law_drawn", "_law_all_integers", "_law_is_list", "_law_is_unknown", "_law_refused", "_law_followers", "_law_turn", "_law_read", "_law_made", "_law_deed", "_law_whole"] : List PySem.Str)
abbrev R : PySem.W.OpenRow := PySem.W.OpenLaw.row PySem.Challenge.rw_sumsplay_k13_whole_yard
abbrev hk : PySem.W.Hook := hookL addrs fs fn
def ob (s : PySem.W.SharedT) : He.AlD := obsLG addrs fs fn (HandSHeadRun.getT s)
theorem ob_eq (s : PySem.W.SharedT) : ob s = hk.obs s.abs := obsLG_eq (HandSHeadRun.getT_eq s)
theorem run (w : World) : HandSHeadRun.RunEq R (PySem.W.view R.prog [24]) hk ob 20000 loose w := by
  intro os
  kernel_rfl
theorem facts {P : Program} {w : World} {K : PySem.W.Frag} {h : Heap} {mg : Str → Option Value} {f : Addr} (X : K.In h) (G : h.Ns mainGlobals mg) (hfa : mg ("law" : Str) = some (.ref f)) (c : SaysM fs fn K) (hg : (He.Fa.glo "law").ok K = true) :
    ∃ fd : FuncData, (∀ (s : Shared) (v : Value), BindsTo s fd ⟨[v], []⟩ [("script", v)]) ∧ ∀ base : Heap, K.In base → base.Ns mainGlobals mg → FnOk P w K mg base CX0 6 f fd ["script"] (sp_law P w K) := by
  have T := txt_of X G c
  obtain ⟨fd, F⟩ := T.d_law
  have e := hfa.symm.trans (He.glo_ok X G hg)
  cases e
  have b := FunD.bindsA (ps := ["script"]) F fun _ _ _ _ _ _ us hl => match us, hl with | [_], _ => rfl
  refine ⟨fd, fun s v => b s [v] rfl, fun base _ _ => ?_⟩
  obtain ⟨fd2, F2, G2⟩ := (all_ok (P := P) (w := w) (base := base) T).ex
  have e2 : fd2 = fd := fd_same F2 F
  rw [← e2]; exact G2
end Mine
open PySem PySem.W PySem.Calls PyProof.Rows
set_option maxRecDepth 100000 in
set_option maxHeartbeats 0 in
theorem PySem.Challenge.cw_sumsplay_k13_whole_yard_holds : PySem.Challenge.rw_sumsplay_k13_whole_yard.Holds := by
  w_on; o_law
  refine HandSHeadRun.head_any (r := OpenLaw.row PySem.Challenge.rw_sumsplay_k13_whole_yard) (q := view (OpenLaw.row PySem.Challenge.rw_sumsplay_k13_whole_yard).prog [24]) (H := Mine.hk) (ob := Mine.ob) (M := 20000) (loose := Mine.loose) (d := HandSHeadRun.topDef (OpenLaw.row PySem.Challenge.rw_sumsplay_k13_whole_yard).prog 24) (kwd := []) Mine.ob_eq
    (by kernel_rfl) (fun s => by kernel_rfl) Mine.run (by kernel_rfl) (by kernel_rfl) (by kernel_rfl) (by rfl) (by first | assumption | decide +kernel) (by decide +kernel) ⟨rfl, rfl, rfl, rfl, rfl, by decide +kernel⟩ ?hw ?hc
  case hw => w_witness2
  case hc =>
    refine L2.walk_ofE (l := PySem.Challenge.rw_sumsplay_k13_whole_yard) (n := 63) (k := 6) (x := "script") (CX := L2.CX0) rfl (by decide) (by kernel_rfl) ⟨rfl, by decide, by decide⟩ ?F (fun _ _ _ _ z => z)
    intro w mg fa h Y G hmg0
    obtain ⟨K, KX, c⟩ := Y
    have hmg : mg ("law" : PySem.Str) = some (.ref fa) := by
      have e : (HandSHeadRun.topDef (OpenLaw.row PySem.Challenge.rw_sumsplay_k13_whole_yard).prog 24).name = ("law" : PySem.Str) := by kernel_rfl
      rw [← e]
      exact hmg0
    obtain ⟨fd, hb, hF⟩ := Mine.facts (P := (PySem.Challenge.rw_sumsplay_k13_whole_yard).prog) (w := w) KX G hmg c (c.fact 21 rfl)
    exact ⟨K, fd, Mine.sp_law (PySem.Challenge.rw_sumsplay_k13_whole_yard).prog w K, KX, hb, fun H a ns hl _ hS => ⟨⟨a, ns, rfl, hS⟩, fun v H' e => e⟩, hF⟩
