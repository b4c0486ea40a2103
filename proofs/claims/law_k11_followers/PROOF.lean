import PyProof.Rows.All
import Wide.All
import OpenK.AllK
import Wide.FinOn
import HandS.ForMost
import HandS.ForExc
import HandS.Defaults
import HandS.MakeKw
import HandS.MakeKwOnly
import HandS.IsInst
import HandS.Codes
import HandS.Property
import HandS.Evl
import HandS.Steps
import HandS.More
import HandS.WideBits
import HandS.Wide
import HandS.FStr
import HandS.HeadEnd
import HandS.HeadHook2
import HandS.HeadHook4
import HandS.HeadNt
import HandS.Head0
import HandS.Head1
import HandS.Head2
import HandS.ExcIs
import KE.KOpsOwn
import KE.BitLaws
import KE.KeyNested
import PyProof.Rows.TupDisplay
import HandS.Dict
import HandS.SetFor
import HandS.Strs
import PyProof.Rows.SetFrom
import HandS.TupAny
import HandS.SortInts
import KE.KEqDeep
import HandS.Style
import KE.KSetDisp
import KE.GoesSet
import PySem.Challenge.RW_sumsplay_k11_followers
set_option Elab.async false
set_option linter.all false
set_option maxRecDepth 100000
set_option maxHeartbeats 4000000
namespace Mine
open PySem PySem.Spec PyProof.Rows L2
/-! a target o.f -/
section
variable {X : Cx} {o : Expr} {f : Str} {pos : Pos} {ta : TE}
def gFld (K : PySem.W.Frag) (ta : TE) (f : Str) : TG := fun v σ H Q => ta σ H fun x H1 =>
  ∃ a C dx fs, x = V.ref a ∧ H1 a = some (HO.ins C dx fs) ∧ Cls K C ∧ NoAttr K C f ∧ fs.length < 1000 ∧ Q σ (upd H1 a (HO.ins C dx (putF f v fs)))
theorem pg_fld (ho : PE X o ta) : PG X (.Attribute o f pos) (gFld X.K ta f) := by
  constructor
  intro pins s σ H v u Q I rv hw
  rw [assign_Attribute]
  apply wpAny_bind
  apply wpAny_holding
  refine thn (ho.run pins s σ H _ I hw) ?_
  rintro ov s1 ⟨x, H1, I1, rx, a, C, dx, fs, rfl, ea, hc, hn, hl, q⟩
  cases (show ov = Value.ref a from rx)
  apply wpAny_bind
  apply wpAny_standAt
  apply wpAny_bind
  apply wpAny_holding
  refine setattr_ok I1 ea hc hn hl rv ?_
  intro s3 I3
  exact wpAny_release ⟨σ, _, I3, q⟩
end

open Evl (Ex)
/-! readings by short names -/
abbrev rAddI : R2 := rI0 fun i j => .int (i + j)
abbrev rSubI : R2 := rI0 fun i j => .int (i - j)
abbrev rMulI : R2 := rI CMul fun i j => .int (i * j)
abbrev rDivI : R2 := rI CDiv fun i j => .int (i / j)
abbrev rDivW : R2 := rI CDivW fun i j => .int (i / j)
abbrev rMulW : R2 := rI CMulW fun i j => .int (i * j)
abbrev rModI : R2 := rI (fun _ j => 0 < j) fun i j => .int (i % j)
abbrev rPowI : R2 := rI CPow fun i j => .int (i ^ j.toNat)
abbrev rShlI : R2 := rI CPow fun i j => .int (i * 2 ^ j.toNat)
abbrev rShrI : R2 := rI (fun _ j => 0 ≤ j) fun i j => .int (i / 2 ^ j.toNat)
abbrev rAndI : R2 := rI0 fun i j => .int (Builtin.bitAnd i j)
abbrev rOrI : R2 := rI0 fun i j => .int (Builtin.bitOr i j)
abbrev rXorI : R2 := rI0 fun i j => .int (Builtin.bitXor i j)
abbrev rLtI : R2 := rI0 fun i j => .bl (decide (i < j))
abbrev rLeI : R2 := rI0 fun i j => .bl (decide (i ≤ j))
abbrev rGtI : R2 := rI0 fun i j => .bl (decide (j < i))
abbrev rGeI : R2 := rI0 fun i j => .bl (decide (j ≤ i))
abbrev rNegI : V → Hp → VK → Prop := rU fun i => .int (-i)
def rIsTy : R2 := fun x y H Q => ∃ a b, x = V.ty a ∧
  y = V.ty b ∧ Q (.bl (decide (a = b))) H
def rIntI : List V → Hp → VK → Prop := fun xs H Q => ∃ i, xs = [V.int i] ∧ Q (.int i) H
def rAbsI : List V → Hp → VK → Prop := fun xs H Q => ∃ i, xs = [V.int i] ∧ Q (.int (if i < 0 then -i else i)) H
def rMax2 : List V → Hp → VK → Prop := fun xs H Q => ∃ i j, xs = [V.int i, V.int j] ∧
  Q (.int (if j > i then j else i)) H
def rMin2 : List V → Hp → VK → Prop := fun xs H Q => ∃ i j, xs = [V.int i, V.int j] ∧
  Q (.int (if j < i then j else i)) H
def rLenQ (K : PySem.W.Frag) : List V → Hp → VK → Prop := fun xs H Q => ∃ p ys, xs = [V.ref p] ∧
  (SqL K H p ys ∨ SqT K H p ys) ∧ Q (.int ys.length) H
def rLenS : List V → Hp → VK → Prop := fun xs H Q => ∃ z, xs = [V.str z] ∧ z.length ≤ sizeLine ∧
  Q (.int z.length) H
def rListQ (K : PySem.W.Frag) : List V → Hp → VK → Prop := fun xs H Q => ∃ p ys, xs = [V.ref p] ∧
  (SqL K H p ys ∨ SqT K H p ys) ∧ ∀ l, H l = none → Q (.ref l) (upd H l (.lst ys))
def rStrI : List V → Hp → VK → Prop := fun xs H Q => ∃ i, xs = [V.int i] ∧ i.natAbs.log2 < 1920 ∧
  Q (.str (toString i)) H
def rIsC (C : Addr) : List V → Hp → VK → Prop := fun xs H Q => ∃ a dx fs, xs = [V.ref a, V.ref C] ∧
  H a = some (HO.ins C dx fs) ∧ Q (.bl true) H
def rCatS : R2 := fun x y H Q => ∃ i j, x = V.str i ∧ y = V.str j ∧ i.length + j.length ≤ sizeLine ∧
  Q (.str (i ++ j)) H
section
variable {X : Cx}
theorem cr_intI : CallR X (.type "int") rIntI := fun pins s σ H xs us Q I r h =>
  call_int1 pins s σ H xs us Q I r (Or.inl h)
theorem cr_absI : CallR X (.builtin "abs") rAbsI := call_abs
theorem cr_max2 (hc : X.calm = true) : CallR X (.builtin "max") rMax2 := call_max2 hc
theorem cr_min2 (hc : X.calm = true) : CallR X (.builtin "min") rMin2 := call_min2 hc
theorem cr_lenQ : CallR X (.builtin "len") (rLenQ X.K) := call_len_seq
theorem cr_lenS : CallR X (.builtin "len") rLenS := call_len_str
theorem cr_listQ : CallR X (.type "list") (rListQ X.K) := call_list_of
theorem cr_strI : CallR X (.type "str") rStrI := call_str_int
theorem cr_isC {C : Addr} (c : C8.InsC X.K C) : CallR X (.builtin "isinstance") (rIsC C) := C8.call_isC c
theorem cst_ok {x : Str} {i : Int} (h : ∃ t, X.mg x = some (.int i t)) : ∃ u, X.mg x = some u ∧ RelV (.int i) u :=
  let ⟨t, e⟩ := h
  ⟨_, e, t, rfl⟩
end
/-! promises: what is asked, what is given, what is raised -/
def spR (pre : List V → Hp → Prop) (post : List V → Hp → V → Hp → Prop) : Sp := fun vs H Q _ =>
  pre vs H ∧ ∀ v H', post vs H v H' → Q v H'
def spX (pre : List V → Hp → Prop) (post : List V → Hp → V → Hp → Prop) (ex : List V → Hp → Value → Option Addr → Hp → Prop) : Sp := fun vs H Q E =>
  pre vs H ∧ (∀ v H', post vs H v H' → Q v H') ∧ ∀ c d H', ex vs H c d H' → E c d H'
structure DefOk (P : Program) (w : World) (K : PySem.W.Frag) (mg : Str → Option Value) (base : Heap) (CX : CXT) (k : Nat) (x qual : Str) (st : Stmt) (dvs : List V) (f : Addr) (ps : List Str) (sp : Sp) : Prop where
  ex : ∃ fd, FunD K x qual (defArgs st) (defBody st) (defScope st) dvs [] f fd ∧ FnOk P w K mg base CX k f fd ps sp
/-! readings, step by step, forwards -/
section
variable {σ : L2.St} {H : Hp} {Q : VK} {ta tb tc te tv : TE} {K : PySem.W.Frag} {D : Ends}
theorem k_var {i : Nat} {v : V} (h : σ[i]? = some (some v)) (q : Q v H) : tVar i σ H Q := ⟨v, h, q⟩
theorem k_c {v : V} (q : Q v H) : tC v σ H Q := q
theorem k_op {r : R2} (q : ta σ H fun x H1 => tb σ H1 fun y H2 => r x y H2 Q) : tOp r ta tb σ H Q := q
theorem k_un {r : V → Hp → VK → Prop} (q : ta σ H fun x H1 => r x H1 Q) : tUn r ta σ H Q := q
theorem k_I0 {g : Int → Int → V} {i j : Int} (q : Q (g i j) H) : rI0 g (.int i) (.int j) H Q := ⟨i, j, rfl, rfl, q⟩
theorem k_I {C : Int → Int → Prop} {g : Int → Int → V} {i j : Int} (c : C i j) (q : Q (g i j) H) : rI C g (.int i) (.int j) H Q := ⟨i, j, rfl, rfl, c, q⟩
theorem k_U {g : Int → V} {i : Int} (q : Q (g i) H) : rU g (.int i) H Q := ⟨i, rfl, q⟩
theorem k_eq {x y : V} (s : scal x y = true) (q : Q (.bl (decide (x = y))) H) : rEq x y H Q := ⟨s, q⟩
theorem k_ne {x y : V} (s : scal x y = true) (q : Q (.bl (!decide (x = y))) H) : rNe x y H Q := ⟨s, q⟩
theorem k_eqI {i j : Int} (q : Q (.bl (decide (i = j))) H) : rEq (.int i) (.int j) H Q := ⟨rfl, by
  have e : decide (V.int i = V.int j) = decide (i = j) := by simp
  rw [e]; exact q⟩
theorem k_eqB {i j : Bool} (q : Q (.bl (decide (i = j))) H) : rEq (.bl i) (.bl j) H Q := ⟨rfl, by
  have e : decide (V.bl i = V.bl j) = decide (i = j) := by simp
  rw [e]; exact q⟩
theorem k_neI {i j : Int} (q : Q (.bl (decide (i ≠ j))) H) : rNe (.int i) (.int j) H Q := ⟨rfl, by
  have e : (!decide (V.int i = V.int j)) = decide (i ≠ j) := by simp
  rw [e]; exact q⟩
theorem k_isTy {a b : String} (q : Q (.bl (decide (a = b))) H) : rIsTy (.ty a) (.ty b) H Q := ⟨a, b, rfl, rfl, q⟩
theorem k_isN {x : V} (q : Q (.bl (decide (x = .non))) H) : rIsN x .non H Q := ⟨rfl, q⟩
theorem k_notN {x : V} (q : Q (.bl (!decide (x = .non))) H) : rNotN x .non H Q := ⟨rfl, q⟩
theorem k_ixL {p : Addr} {xs : List V} {i : Int} {v : V} (h : SqL K H p xs) (e : atI xs i = some v) (q : Q v H) : rIxL K (.ref p) (.int i) H Q := ⟨p, xs, i, v, rfl, rfl, h, e, q⟩
theorem k_ixT {p : Addr} {xs : List V} {i : Int} {v : V} (h : SqT K H p xs) (e : atI xs i = some v) (q : Q v H) : rIxT K (.ref p) (.int i) H Q := ⟨p, xs, i, v, rfl, rfl, h, e, q⟩
theorem k_andV (q : ta σ H fun x H1 => ∃ c, x = .bl c ∧ if c = true then tb σ H1 Q else Q (.bl false) H1) : tAndV ta tb σ H Q := q
theorem k_orV (q : ta σ H fun x H1 => ∃ c, x = .bl c ∧ if c = true then Q (.bl true) H1 else tb σ H1 Q) : tOrV ta tb σ H Q := q
theorem k_notV (q : ta σ H fun x H1 => ∃ c, x = .bl c ∧ Q (.bl (!c)) H1) : tNotV ta σ H Q := q
theorem k_if {t : TT} (q : t σ H fun c H1 => if c = true then ta σ H1 Q else tb σ H1 Q) : tIf t ta tb σ H Q := q
theorem k_chain {r r' : R2} (q : ta σ H fun x H1 => tb σ H1 fun y H2 => r x y H2 fun z H3 => ∃ k, z = .bl k ∧ (if k = true then tc σ H3 fun w' H4 => r' y w' H4 Q else Q (.bl false) H3)) : tChain r r' ta tb tc σ H Q := q
theorem k_bl {P : Bool → Prop} {c : Bool} (q : P c) : ∃ k, V.bl c = V.bl k ∧ P k := ⟨c, rfl, q⟩
theorem k_tup {t : TA} (q : t σ H fun xs H1 => xs.length ≤ sizeLine ∧ ∀ p, H1 p = none → Q (.ref p) (upd H1 p (.tup xs))) : tTup t σ H Q := q
theorem k_lst {t : TA} (q : t σ H fun xs H1 => xs.length ≤ sizeLine ∧ ∀ p, H1 p = none → Q (.ref p) (upd H1 p (.lst xs))) : tLst t σ H Q := q
theorem k_cb {r : List V → Hp → VK → Prop} {t : TA} (q : t σ H fun vs H1 => r vs H1 Q) : tCB r t σ H Q := q
theorem k_nil {R : List V → Hp → Prop} (q : R [] H) : tNil σ H R := q
theorem k_cons {t : TA} {R : List V → Hp → Prop} (q : ta σ H fun x H1 => t σ H1 fun xs H2 => R (x :: xs) H2) : tCons ta t σ H R := q
theorem k_rInt {i : Int} (q : Q (.int i) H) : rIntI [.int i] H Q := ⟨i, rfl, q⟩
theorem k_rAbs {i : Int} (q : Q (.int (if i < 0 then -i else i)) H) : rAbsI [.int i] H Q := ⟨i, rfl, q⟩
theorem k_rMax {i j : Int} (q : Q (.int (if j > i then j else i)) H) : rMax2 [.int i, .int j] H Q := ⟨i, j, rfl, q⟩
theorem k_rMin {i j : Int} (q : Q (.int (if j < i then j else i)) H) : rMin2 [.int i, .int j] H Q := ⟨i, j, rfl, q⟩
theorem k_rLenL {p : Addr} {ys : List V} (h : SqL K H p ys) (q : Q (.int ys.length) H) : rLenQ K [.ref p] H Q := ⟨p, ys, rfl, Or.inl h, q⟩
theorem k_rLenT {p : Addr} {ys : List V} (h : SqT K H p ys) (q : Q (.int ys.length) H) : rLenQ K [.ref p] H Q := ⟨p, ys, rfl, Or.inr h, q⟩
theorem k_rStr {i : Int} (h : i.natAbs.log2 < 1920) (q : Q (.str (toString i)) H) : rStrI [.int i] H Q := ⟨i, rfl, h, q⟩
theorem k_rIsC {C a dx : Addr} {fs : List (Str × V)} (h : H a = some (.ins C dx fs)) (q : Q (.bl true) H) : rIsC C [.ref a, .ref C] H Q := ⟨a, dx, fs, rfl, h, q⟩
theorem k_isi {x c : V} {t u : Value} {b : Bool} (hc : ClsV c u) (ht : TyX K H x t) (e : PySem.W.kitOne K t u = some b) (q : Q (.bl b) H) : rIsi K [x, c] H Q := ⟨x, c, t, u, b, rfl, hc, ht, e, q⟩
theorem k_fld {a C dx : Addr} {fs : List (Str × V)} {f : Str} {v : V} (ha : ta σ H fun x H1 => x = .ref a ∧ H1 a = some (.ins C dx fs) ∧ Cls K C ∧ NoAttr K C f ∧ fs.lookup f = some v ∧ Q v H1)
    (mono : ∀ Q1 Q2 : VK, (∀ x H1, Q1 x H1 → Q2 x H1) → ta σ H Q1 → ta σ H Q2) : tFld K ta f σ H Q :=
  mono _ _ (fun _ _ ⟨h1, h2, h3, h4, h5, h6⟩ => ⟨a, C, dx, fs, v, h1, h2, h3, h4, h5, h6⟩) ha
theorem k_call {sp : Sp} {dvs : List V} {E : XK} {t : TA} (q : t σ H fun vs H1 => sp (vs ++ dvs) H1 Q E) : tCall sp dvs E t σ H Q := q
theorem k_meth {C : Addr} {m : Str} {sp : Sp} {dvs : List V} {E : XK} {t : TA} (q : ta σ H fun x H1 => ∃ a dx fs, x = .ref a ∧ H1 a = some (.ins C dx fs) ∧ fs.lookup m = none ∧ t σ H1 fun vs H2 => sp (x :: (vs ++ dvs)) H2 Q E) : tMeth C m sp dvs E ta t σ H Q := q
theorem k_make {C : Addr} {sp : Sp} {dvs : List V} {E : XK} {t : TA} (q : t σ H fun vs H1 => ∀ x dx, H1 x = none → H1 dx = none → dx ≠ x → sp (.ref x :: (vs ++ dvs)) (upd (upd H1 dx (.own x)) x (.ins C dx [])) (fun v H2 => v = .non ∧ Q (.ref x) H2) E) : tMake C sp dvs E t σ H Q := q
theorem k_prop {C : Addr} {sp : Sp} {dvs : List V} {E : XK} (q : ta σ H fun x H1 => ∃ a dx fs, x = .ref a ∧ H1 a = some (.ins C dx fs) ∧ sp (.ref a :: dvs) H1 Q E) : tProp C sp dvs E ta σ H Q := q
/-! tests -/
variable {t u : TT} {R : Bool → Hp → Prop}
theorem k_test (q : te σ H fun x H' => ∃ k, x = .bl k ∧ R k H') : tTest te σ H R := q
theorem k_B (q : te σ H fun x H' => ∃ k, x = .bl k ∧ R k H') : tB te σ H R := q
theorem k_and (q : t σ H fun c H1 => if c = true then u σ H1 R else R false H1) : tAnd t u σ H R := q
theorem k_or (q : t σ H fun c H1 => if c = true then R true H1 else u σ H1 R) : tOr t u σ H R := q
theorem k_not (q : t σ H fun c H1 => R (!c) H1) : tNot t σ H R := q
/-! statements -/
variable {t1 t2 : TS} {g : TG}
theorem k_seq (q : t1 { D with nx := t2 D } σ H) : tSeq t1 t2 D σ H := q
theorem k_next (q : D.nx σ H) : tNext D σ H := q
theorem k_asg (q : te σ H fun x H1 => g x σ H1 D.nx) : tAsg te g D σ H := q
theorem k_name {i : Nat} {v : V} {R : L2.St → Hp → Prop} (q : R (σ.set i (some v)) H) : gName i v σ H R := q
theorem k_ret (q : te σ H D.rt) : tRet te D σ H := q
theorem k_drop (q : te σ H fun _ H1 => D.nx σ H1) : tDrop te D σ H := q
theorem k_ifS (q : t σ H fun b H1 => if b = true then t1 D σ H1 else t2 D σ H1) : tIfS t t1 t2 D σ H := q
theorem k_gtup {n : Nat} {tg : TGs} {a : Addr} {xs : List V} {R : L2.St → Hp → Prop} (h : SqT K H a xs) (l : xs.length = n) (q : tg xs σ H R) : gTup K n tg (.ref a) σ H R := ⟨a, xs, rfl, h, l, q⟩
theorem k_gcons {tg : TG} {tr : TGs} {v : V} {r : List V} {R : L2.St → Hp → Prop} (q : tg v σ H fun σ' H' => tr r σ' H' R) : gCons tg tr (v :: r) σ H R := ⟨v, r, rfl, q⟩
theorem k_gnil {R : L2.St → Hp → Prop} (q : R σ H) : gNil [] σ H R := ⟨rfl, q⟩
theorem k_gfld {a C dx : Addr} {i : Nat} {fs : List (Str × V)} {f : Str} {v : V} {R : L2.St → Hp → Prop} (hs : σ[i]? = some (some (.ref a))) (h : H a = some (.ins C dx fs)) (hc : Cls K C) (hn : NoAttr K C f) (hl : fs.length < 1000) (q : R σ (upd H a (.ins C dx (putF f v fs)))) : gFld K (tVar i) f v σ H R :=
  ⟨_, hs, a, C, dx, fs, rfl, h, hc, hn, hl, q⟩
theorem k_fldv {a C dx : Addr} {i : Nat} {fs : List (Str × V)} {f : Str} {v : V} (hs : σ[i]? = some (some (.ref a))) (h : H a = some (.ins C dx fs)) (hc : Cls K C) (hn : NoAttr K C f) (hl : fs.lookup f = some v) (q : Q v H) : tFld K (tVar i) f σ H Q :=
  ⟨_, hs, a, C, dx, fs, v, rfl, h, hc, hn, hl, q⟩
theorem k_iteT {A B : Prop} (q : A) : if true = true then A else B := q
theorem k_iteF {A B : Prop} (q : B) : if false = true then A else B := by simpa using q
theorem k_pow12 (q : Q (.int 1000000000000) H) : rPowI (.int 10) (.int 12) H Q := k_I ⟨by decide, by decide, by decide⟩ q
theorem k_pow11 (q : Q (.int 100000000000) H) : rPowI (.int 10) (.int 11) H Q := k_I ⟨by decide, by decide, by decide⟩ q
theorem k_pow9 (q : Q (.int 1000000000) H) : rPowI (.int 10) (.int 9) H Q := k_I ⟨by decide, by decide, by decide⟩ q
theorem k_pow30 (q : Q (.int 1000000000000000000000000000000) H) : rPowI (.int 10) (.int 30) H Q := k_I ⟨by decide, by decide, by decide⟩ q
theorem k_pow18 (q : Q (.int 1000000000000000000) H) : rPowI (.int 10) (.int 18) H Q := k_I ⟨by decide, by decide, by decide⟩ q
theorem k_minL {i j : Int} (q : ∀ m, m ≤ i → m ≤ j → (m = i ∨ m = j) → Q (.int m) H) : rMin2 [.int i, .int j] H Q := by
  refine ⟨i, j, rfl, ?_⟩
  by_cases h : j < i
  · rw [if_pos h]; exact q j (by omega) (by omega) (Or.inr rfl)
  · rw [if_neg h]; exact q i (by omega) (by omega) (Or.inl rfl)
theorem k_maxL {i j : Int} (q : ∀ m, i ≤ m → j ≤ m → (m = i ∨ m = j) → Q (.int m) H) : rMax2 [.int i, .int j] H Q := by
  refine ⟨i, j, rfl, ?_⟩
  by_cases h : j > i
  · rw [if_pos h]; exact q j (by omega) (by omega) (Or.inr rfl)
  · rw [if_neg h]; exact q i (by omega) (by omega) (Or.inl rfl)
theorem k_shl1 {j : Int} (h : 0 ≤ j ∧ j ≤ 1000000) (q : ∀ m : Int, 1 ≤ m → m = 2 ^ j.toNat → Q (.int m) H) : rShlI (.int 1) (.int j) H Q := by
  refine k_I ⟨h.1, h.2, by decide⟩ ?_
  rw [Int.one_mul]
  refine q _ ?_ rfl
  have hp : (0 : Int) < 2 ^ j.toNat := Int.pow_pos (by decide)
  omega
theorem k_iteNT {A B : Prop} (q : B) : if (!true) = true then A else B := by simpa using q
theorem k_iteNF {A B : Prop} (q : A) : if (!false) = true then A else B := by simpa using q
theorem k_raise {E : XK} {c : Value} (q : E c none H) : tRaise E c D σ H := q
theorem k_iteD {p A B : Prop} [Decidable p] (h1 : p → A) (h2 : ¬ p → B) : if decide p = true then A else B := by
  by_cases h : p
  · rw [if_pos (decide_eq_true h)]; exact h1 h
  · rw [if_neg (by simpa using h)]; exact h2 h
theorem k_iteN {p A B : Prop} [Decidable p] (h1 : ¬ p → A) (h2 : p → B) : if (!decide p) = true then A else B := by
  by_cases h : p
  · rw [if_neg (by simpa using h)]; exact h2 h
  · rw [if_pos (by simpa using h)]; exact h1 h
theorem k_iteB {b : Bool} {A B : Prop} (h1 : b = true → A) (h2 : b = false → B) : if b = true then A else B := by
  cases b
  · rw [if_neg (by decide)]; exact h2 rfl
  · exact h1 rfl
theorem k_sq {a : Addr} {xs : List V} (h : H a = some (.lst xs)) : SqL K H a xs := Or.inl (Or.inl h)
theorem k_st {a : Addr} {xs : List V} (h : H a = some (.tup xs)) : SqT K H a xs := Or.inl (Or.inl h)
theorem k_while (W : Nat → L2.St → Hp → Prop) (m0 : Nat) (h0 : W m0 σ H)
    (hs : ∀ m σ H, W m σ H → t σ H fun b H1 => if b = true then ∃ N : L2.St → Hp → Prop, (∀ σ' H', N σ' H' → ∃ m', m' < m ∧ W m' σ' H') ∧
      t1 { D with nx := N, ct := N, bk := D.nx } σ H1 else D.nx σ H1) : tWhile t t1 D σ H := ⟨W, ⟨m0, h0⟩, hs⟩
/-- what a loop asks, by a word of its turns -/
def forK (g : TG) (tb : TS) (D : Ends) (σ : L2.St) : It → Hp → Prop := fun J H1 =>
  ∃ W : Nat → Nat → L2.St → Hp → Prop, (∃ m, W 0 m σ H1) ∧
    ∀ i m σ H, W i m σ H → (J.stop i H ∧ D.nx σ H) ∨ (J.go i H ∧
      ∃ N : L2.St → Hp → Prop, (∀ σ' H', N σ' H' → ∃ m', m' < m ∧ W (i + 1) m' σ' H') ∧
        ∀ x H', J.yld i H x H' → g x σ H' fun σ2 H2 => tb { D with nx := N, ct := N, bk := D.nx } σ2 H2)
theorem k_for {wi : TI} {g : TG} {tb : TS} (q : wi σ H (forK g tb D σ)) : tFor wi g tb D σ H := q
theorem k_rng1 {ta : TA} {R : It → Hp → Prop} (q : ta σ H fun vs H1 => ∃ j : Int, vs = [.int j] ∧
  -(2 ^ 62) ≤ j ∧ j < 2 ^ 62 ∧ R (Itr 0 j.toNat) H1) : iRng1 ta σ H R := q
theorem k_rng2 {ta : TA} {R : It → Hp → Prop} (q : ta σ H fun vs H1 => ∃ i j : Int, vs = [.int i, .int j] ∧
  (-(2 ^ 62) ≤ i ∧ i < 2 ^ 62 ∧ -(2 ^ 62) ≤ j ∧ j < 2 ^ 62) ∧ R (Itr i (j - i).toNat) H1) : iRng2 ta σ H R := q
theorem k_ilist {tl : TE} {R : It → Hp → Prop} (q : tl σ H fun x H1 => ∃ a, x = .ref a ∧
  (∃ xs, SqL K H1 a xs) ∧ R (Itl K a) H1) : iList K tl σ H R := q
theorem k_itup {tl : TE} {R : It → Hp → Prop} (q : tl σ H fun x H1 => ∃ a, x = .ref a ∧
  (∃ xs, SqT K H1 a xs) ∧ R (Itt K a) H1) : iTup K tl σ H R := q
theorem forK_range {g : TG} {tb : TS} {n : Nat} (Pv : Nat → L2.St → Hp → Prop) (h0 : Pv 0 σ H)
    (hs : ∀ (i : Nat) σ' H', i < n → Pv i σ' H' → g (.int (i : Int)) σ' H' fun σ2 H2 => tb { D with nx := Pv (i + 1), ct := Pv (i + 1), bk := D.nx } σ2 H2)
    (hd : ∀ σ' H', Pv n σ' H' → D.nx σ' H') : forK g tb D σ (Itr 0 n) H := by
  refine for_range (lo := 0) (n := n) Pv h0 (fun i σ' H' hi p => ?_) hd
  have e0 : (0 : Int) + (i : Int) = (i : Int) := Int.zero_add _
  rw [e0]
  exact hs i σ' H' hi p
theorem forK_list {g : TG} {tb : TS} {a : Addr} {xs : List V} (Pv : Nat → L2.St → Hp → Prop) (h0 : Pv 0 σ H)
    (hl : ∀ i σ' H', i ≤ xs.length → Pv i σ' H' → SqL K H' a xs)
    (hs : ∀ i x σ' H', xs[i]? = some x → Pv i σ' H' → g x σ' H' fun σ2 H2 => tb { D with nx := Pv (i + 1), ct := Pv (i + 1), bk := D.nx } σ2 H2)
    (hd : ∀ σ' H', Pv xs.length σ' H' → D.nx σ' H') : forK g tb D σ (Itl K a) H := for_list Pv h0 hl hs hd
end
section
variable {σ : L2.St} {H : Hp} {Q : VK} {ta te : TE} {K : PySem.W.Frag}
theorem k_bm {T : String} {r : V → List V → Hp → VK → Prop} {t : TA} (q : ta σ H fun x H1 => tyV K T x H1 ∧
  t σ H1 fun xs H2 => r x xs H2 Q) : tBM K T r ta t σ H Q := q
theorem k_bm0 {T : String} {r : V → List V → Hp → VK → Prop} (q : ta σ H fun x H1 => tyV K T x H1 ∧ r x [] H1 Q) : tBM0 K T r ta σ H Q := q
theorem k_tyl {l : Addr} {xs : List V} {P : Prop} (h : SqL K H l xs) (q : P) : tyV K "list" (.ref l) H ∧ P := ⟨Or.inl ⟨rfl, xs, h⟩, q⟩
theorem k_rApp {l : Addr} {xs : List V} {y : V} (h : H l = some (.lst xs)) (z : xs.length < sizeLine) (q : Q .non (upd H l (.lst (xs ++ [y])))) : rAppend (.ref l) [y] H Q := ⟨l, xs, y, rfl, rfl, h, z, q⟩
theorem k_sizeL {α : Type} {xs : List α} {f : α → V} (h : xs.length ≤ 100000) : (xs.map f).length < sizeLine := by
  rw [List.length_map]; exact Nat.lt_of_le_of_lt h (by decide)
end
section
variable {σ : L2.St} {H : Hp} {t u : TS} {D : Ends}
theorem k_cut (Mid : L2.St → Hp → Prop) (h : t { D with nx := Mid } σ H) (r : ∀ σ' H', Mid σ' H' → u D σ' H') : Evl.tCut t u D σ H := ⟨Mid, h, r⟩
end
theorem tr_step {H H' : Hp} {a : Addr} {o : HO} (e : Ex H H') (h : H a = some o) : H' a = some o := e a o h
section
variable {X : Cx} {CX : CXT} {k : Nat} {f C : Addr} {fd : FuncData} {ps : List Str} {sp : Sp} {E : XK}
/-- x op y, both instances of the class at C -/
def rMine (C : Addr) (sp : Sp) (E : XK) : R2 := fun x y H Q => ∃ a dx fs b dy gs,
  x = V.ref a ∧ y = V.ref b ∧ H a = some (HO.ins C dx fs) ∧ H b = some (HO.ins C dy gs) ∧ sp [x, y] H Q E
def rMine1 (C : Addr) (sp : Sp) (E : XK) : V → Hp → VK → Prop := fun x H Q => ∃ a dx fs,
  x = V.ref a ∧ H a = some (HO.ins C dx fs) ∧ sp [x] H Q E
theorem back_of {z : V} {u : Value} {s' : Shared} {R : Value → Shared → Prop} (r : RelV z u) (q : R u s') : PySem.W.CmpBack R u s' := by
  cases z with
  | non => cases r; exact q
  | bl b => cases r; exact q
  | int i => obtain ⟨t, rfl⟩ := r; exact q
  | str i => obtain ⟨t, rfl⟩ := r; exact q
  | byt i => obtain ⟨t, rfl⟩ := r; exact q
  | flt i => obtain ⟨t, rfl⟩ := r; exact q
  | ref a => cases r; exact q
  | ty n => cases r; exact q
theorem op_mine {op : Operator} (hc : PySem.W.selfFirst X.K C = true) (hm : Meth X.K C (PySem.dunder op.info.2) f) (F : FnOk X.prog X.w X.K X.mg X.base CX k f fd ps sp) (hr : Room k X.A) (hb : Binds X.K fd ps []) (hx : Passes CX X E) :
    OpR X (binaryOp op) (rMine C sp E) := by
  rintro pins s σ H x y v u Q I rx ry ⟨a, dx, fs, b, dy, gs, rfl, rfl, ha, hb', q⟩
  cases (show v = Value.ref a from rx)
  cases (show u = Value.ref b from ry)
  obtain ⟨mA, O, _⟩ := ins_get I.hok ha
  obtain ⟨mB, O', _⟩ := ins_get I.hok hb'
  obtain ⟨od, J, _⟩ := O.look
  obtain ⟨od', J', _⟩ := O'.look
  obtain ⟨m, hF⟩ := I.fr
  refine PySem.W.binop_K hF I.ok.mod.kin J J'.type hc hm.at_ hm.fn ?_
  refine wpAny_mono (run_fn (us := [.ref a, .ref b]) (vs := [.ref a, .ref b]) (dvs := []) (ds := []) F hr hb .nil hx I (.cons rfl (.cons rfl .nil)) q) ?_ (fun _ _ z => z)
  rintro u' s' ⟨z, H', I', rz, qz⟩
  exact back_of (R := EP X pins σ Q) rz ⟨z, H', I', rz, qz⟩
theorem un_mine (hm : Meth X.K C "__neg__" f) (F : FnOk X.prog X.w X.K X.mg X.base CX k f fd ps sp) (hr : Room k X.A) (hb : Binds X.K fd ps []) (hx : Passes CX X E) :
    UnR X (unaryOp .USub) (rMine1 C sp E) := by
  rintro pins s σ H x v Q I rx ⟨a, dx, fs, rfl, ha, q⟩
  cases (show v = Value.ref a from rx)
  obtain ⟨mA, O, _⟩ := ins_get I.hok ha
  obtain ⟨od, J, _⟩ := O.look
  obtain ⟨m, hF⟩ := I.fr
  refine PySem.W.ksp_neg hF I.ok.mod.kin J hm.at_ hm.fn ?_
  exact run_fn (us := [.ref a]) (vs := [.ref a]) (dvs := []) (ds := []) F hr hb .nil hx I (.cons rfl .nil) q
end
/-! small facts -/
theorem get_int {ns : List Int} {i : Nat} {y : V} (h : (ns.map V.int)[i]? = some y) : ∃ z, ns[i]? = some z ∧ y = .int z := by
  rw [List.getElem?_map] at h
  cases e : ns[i]? with
  | none => rw [e] at h; cases h
  | some z => rw [e] at h; exact ⟨z, rfl, (Option.some.inj h).symm⟩
theorem at_int {ns : List Int} {k : Int} (h0 : 0 ≤ k) (h1 : k < ns.length) : ∃ z, ns[k.toNat]? = some z ∧ atI (ns.map V.int) k = some (.int z) := by
  have hk : k.toNat < ns.length := by omega
  refine ⟨ns[k.toNat], by simp [hk], ?_⟩
  have e : ((k.toNat : Nat) : Int) = k := by omega
  have z : atI (ns.map V.int) ((k.toNat : Nat) : Int) = some (V.int ns[k.toNat]) := atI_nat (by simp [hk])
  rw [e] at z
  exact z
theorem ex_of {H H' : Hp} (e : H' = H) : Ex H H' := by rw [e]; exact Evl.Ex.refl H
theorem ex_upd {H : Hp} {p : Addr} {o : HO} (h : H p = none) : Ex H (upd H p o) := Evl.Ex.new h
theorem two_le : ∀ a b : V, [a, b].length ≤ sizeLine := fun _ _ => by show 2 ≤ sizeLine; decide
end Mine
namespace Mine
open PySem PySem.Spec PyProof.Rows L2
open PySem.W (Frag)
/-! the facts of the head: a list of tests of the written part, and the defs -/
def obsM (fs : List (Frag → Bool)) (fn : List He5.DefA) (K : Frag) : He.AlD :=
  ((fs.all fun f => f K) && fn.all fun d => d.ok K, fn.map fun d => He5.fnA K (d.at_ K))
def SaysM (fs : List (Frag → Bool)) (fn : List He5.DefA) (K : Frag) : Prop := obsM fs fn K = He5.valA fn
def obsMG (n : Nat) (fs : List (Frag → Bool)) (fn : List He5.DefA) (g : Addr → Option Obj) : He.AlD := obsM fs fn (He.frG g (He5.asA g n))
def hookM (n : Nat) (fs : List (Frag → Bool)) (fn : List He5.DefA) : PySem.W.Hook where
  α := He.AlD
  obs s := obsMG n fs fn s.heap.get?
  val _ := He5.valA fn
  says _ h := ∃ K : Frag, K.In h ∧ SaysM fs fn K
  of _ _ e := ⟨_, He.frG_in, e⟩
  keeps _ _ _ := fun ⟨K, hK, c⟩ k => ⟨K, PySem.W.Frag.In.keeps hK k, c⟩
theorem obsMG_eq {n : Nat} {fs : List (Frag → Bool)} {fn : List He5.DefA} {g : Addr → Option Obj} {s : Shared} (h : ∀ a, g a = s.heap.get? a) :
    obsMG n fs fn g = (hookM n fs fn).obs s := by
  have e : g = s.heap.get? := funext h
  subst e
  rfl
theorem SaysM.fact {fs : List (Frag → Bool)} {fn : List He5.DefA} {K : Frag} (c : SaysM fs fn K) (i : Nat) {f : Frag → Bool} (h : fs[i]? = some f) : f K = true := by
  have c1 : ((fs.all fun f => f K) && fn.all fun d => d.ok K) = true := congrArg (fun z : He.AlD => z.1) c
  exact List.all_eq_true.mp (Bool.and_eq_true_iff.mp c1).1 f (List.mem_of_getElem? h)
theorem SaysM.dfn {fs : List (Frag → Bool)} {fn : List He5.DefA} {K : Frag} (c : SaysM fs fn K) (i : Nat) {d : He5.DefA} (h : fn[i]? = some d) :
    ∃ fd, FunD K d.name d.qual d.params d.body d.scope (d.dvs K) (d.kws K) (d.at_ K) fd := by
  have c1 : ((fs.all fun f => f K) && fn.all fun d => d.ok K) = true := congrArg (fun z : He.AlD => z.1) c
  have c2 := List.all_eq_true.mp (Bool.and_eq_true_iff.mp c1).2 d (List.mem_of_getElem? h)
  have e : (fn.map fun d => He5.fnA K (d.at_ K)) = fn.map He5.DefA.val := congrArg (fun z : He.AlD => z.2) c
  have e2 := congrArg (fun l => l[i]?) e
  simp only [List.getElem?_map, h, Option.map_some, Option.some.injEq] at e2
  exact He5.DefA.funD e2 c2
end Mine
namespace Mine
open PySem PySem.Spec PyProof.Rows L2
theorem fd_same {K : PySem.W.Frag} {x q x' q' : Str} {a a' : Arguments} {b b' : List Stmt} {c c' : Scope} {d d' : List V} {k k' : List (Str × V)} {f : Addr} {fd fd' : FuncData} (F : FunD K x q a b c d k f fd) (G : FunD K x' q' a' b' c' d' k' f fd') : fd = fd' := by
  obtain ⟨_, _, _, _, _, _, _, _, _, _, _, l, _⟩ := F.ex
  obtain ⟨_, _, _, _, _, _, _, _, _, _, _, l', _⟩ := G.ex
  have e := Option.some.inj (l.symm.trans l')
  injection e with _ _ e
  injection e
end Mine
namespace Mine
open PySem PySem.Spec PyProof.Rows L2
def propG (K : PySem.W.Frag) (C f : Str) : Addr := match PySem.W.recIn K (He.ma K (He.ga K C) f) "property" with
  | some (.ref g :: _) => g
  | _ => 0
def propB (K : PySem.W.Frag) (C f : Str) : Bool :=
  He.eqO (PySem.W.findIn K (.ref (He.ga K C)) f) (some (some (.ref (He.ma K (He.ga K C) f)))) &&
  (He.eqO (PySem.W.specialIn K (.ref (He.ma K (He.ga K C) f)) "__get__") (some (some (.builtin "property.__get__"))) &&
  (decide (PySem.W.takesIn K (.ref (He.ma K (He.ga K C) f)) = some true) &&
  match PySem.W.recIn K (He.ma K (He.ga K C) f) "property" with
  | some (.ref _ :: _) => true
  | _ => false))
theorem prop_ok {K : PySem.W.Frag} {C f : Str} (h : propB K C f = true) : PropOf K (He.ga K C) f (He.ma K (He.ga K C) f) (propG K C f) := by
  unfold propB at h
  rw [Bool.and_eq_true, Bool.and_eq_true, Bool.and_eq_true] at h
  obtain ⟨h1, h2, h3, h4⟩ := h
  refine ⟨He.eqO_ok h1, He.eqO_ok h2, of_decide_eq_true h3, ?_⟩
  unfold propG
  split at h4
  · rename_i g rest e
    rw [e]; exact ⟨_, rfl⟩
  · cases h4
def inscB (K : PySem.W.Frag) (C : Str) : Bool :=
  (He.Fa.cls C).ok K && (He.eqO (PySem.W.findIn K (.ref (He.ga K C)) "__class__") (some (some (.builtin "object.__class__"))) &&
  (He.eqO (PySem.W.specialIn K (.builtin "object.__class__") "__get__") (some (some (.builtin "getset_descriptor.__get__"))) &&
  (decide (PySem.W.takesIn K (.builtin "object.__class__") = some true) && (decide (PySem.W.mroIn K (He.ga K C) (.type "object") = some true) &&
  decide (PySem.W.kitOne K (.ref (He.ga K C)) (.ref (He.ga K C)) = some true)))))
theorem insc_ok {K : PySem.W.Frag} {C : Str} (h : inscB K C = true) : C8.InsC K (He.ga K C) := by
  unfold inscB at h
  rw [Bool.and_eq_true, Bool.and_eq_true, Bool.and_eq_true, Bool.and_eq_true, Bool.and_eq_true] at h
  obtain ⟨h1, h2, h3, h4, h5, h6⟩ := h
  exact ⟨He.cls_ok h1, He.eqO_ok h2, He.eqO_ok h3, of_decide_eq_true h4, of_decide_eq_true h5, of_decide_eq_true h6⟩
end Mine
namespace Mine
open PySem L2
theorem cls_ty (T : String) : ClsV (.ty T) (.type T) := .ty T
theorem k_isiII {K : PySem.W.Frag} {H : Hp} {Q : VK} {i : Int} (q : Q (.bl true) H) : rIsi K [.int i, .ty "int"] H Q :=
  k_isi (cls_ty "int") (.base (.int i)) (kit_ty (b := "int") (r := true) (by decide +kernel)) q
theorem k_isiIB {K : PySem.W.Frag} {H : Hp} {Q : VK} {i : Int} (q : Q (.bl false) H) : rIsi K [.int i, .ty "bool"] H Q :=
  k_isi (cls_ty "bool") (.base (.int i)) (kit_ty (b := "bool") (r := false) (by decide +kernel)) q
theorem k_isiBB {K : PySem.W.Frag} {H : Hp} {Q : VK} {b : Bool} (q : Q (.bl true) H) : rIsi K [.bl b, .ty "bool"] H Q :=
  k_isi (cls_ty "bool") (.base (.bl b)) (kit_ty (b := "bool") (r := true) (by decide +kernel)) q
/-- the plain form of top / 2 ** power -/
def plainZ : Int → Nat → Int × Int
  | t, 0 => (t, 0)
  | t, n + 1 => if t % 2 = 0 then plainZ (t / 2) n else (t, ((n + 1 : Nat) : Int))
theorem plainZ_zero (t : Int) : plainZ t 0 = (t, 0) := rfl
theorem plainZ_even {t : Int} {n : Nat} (h : t % 2 = 0) : plainZ t (n + 1) = plainZ (t / 2) n := by
  show (if t % 2 = 0 then _ else _) = _
  rw [if_pos h]
theorem plainZ_odd {t : Int} {n : Nat} (h : ¬ t % 2 = 0) : plainZ t (n + 1) = (t, ((n + 1 : Nat) : Int)) := by
  show (if t % 2 = 0 then _ else _) = _
  rw [if_neg h]
theorem plainZ_le : ∀ (t : Int) (n : Nat), 0 ≤ (plainZ t n).2 ∧ (plainZ t n).2 ≤ n
  | t, 0 => by simp [plainZ]
  | t, n + 1 => by
    have ih := plainZ_le (t / 2) n
    by_cases h : t % 2 = 0
    · rw [plainZ_even h]; omega
    · rw [plainZ_odd h]; simp only; omega
/-- the plain form, in words: an even top stands with power 0 alone -/
theorem plainZ_plain : ∀ (t : Int) (n : Nat), (plainZ t n).2 = 0 ∨ ¬ (plainZ t n).1 % 2 = 0
  | t, 0 => Or.inl rfl
  | t, n + 1 => by
    by_cases h : t % 2 = 0
    · rw [plainZ_even h]; exact plainZ_plain _ _
    · rw [plainZ_odd h]; exact Or.inr h
/-- the value: t * 2 ^ p = top * 2 ^ n -/
theorem plainZ_val : ∀ (t : Int) (n : Nat), (plainZ t n).1 * 2 ^ n = t * 2 ^ (plainZ t n).2.toNat
  | t, 0 => by simp [plainZ]
  | t, n + 1 => by
    by_cases h : t % 2 = 0
    · rw [plainZ_even h]
      have ih := plainZ_val (t / 2) n
      have e : t = 2 * (t / 2) := by omega
      rw [Int.pow_succ, ← Int.mul_assoc, ih]
      generalize (plainZ (t / 2) n).2.toNat = k
      generalize t / 2 = u at e
      rw [e, Int.mul_comm (u * 2 ^ k) 2, Int.mul_assoc]
    · rw [plainZ_odd h]; rfl
/-- one plain form a number -/
theorem plain_one {t u : Int} {p q : Nat} (ht : p = 0 ∨ ¬ t % 2 = 0) (hu : q = 0 ∨ ¬ u % 2 = 0) (e : t * 2 ^ q = u * 2 ^ p) : t = u ∧ p = q := by
  have key : ∀ {t u : Int} {p q : Nat}, (q = 0 ∨ ¬ u % 2 = 0) → t * 2 ^ q = u * 2 ^ p → ¬ p < q := by
    intro t u p q hu e h
    have e1 : q = (q - p - 1) + 1 + p := by omega
    rw [e1, Int.pow_add, ← Int.mul_assoc] at e
    have e2 := Int.eq_of_mul_eq_mul_right (Int.ne_of_gt (Int.pow_pos (by decide))) e
    rw [Int.pow_succ, ← Int.mul_assoc] at e2
    omega
  have h1 := key hu e
  have h2 := key ht e.symm
  have h3 : p = q := by omega
  subst h3
  exact ⟨Int.eq_of_mul_eq_mul_right (Int.ne_of_gt (Int.pow_pos (by decide))) e, rfl⟩
/-- two numbers by any of their forms -/
theorem scale (a c : Int) (b d : Nat) : ∃ S : Int, 0 < S ∧ ∃ S' : Int, 0 < S' ∧ (plainZ a b).1 * 2 ^ (plainZ c d).2.toNat * S = a * 2 ^ d * S' ∧ (plainZ c d).1 * 2 ^ (plainZ a b).2.toNat * S = c * 2 ^ b * S' := by
  have v1 := plainZ_val a b
  have v2 := plainZ_val c d
  generalize plainZ a b = x at *
  generalize plainZ c d = y at *
  refine ⟨2 ^ b * 2 ^ d, Int.mul_pos (Int.pow_pos (by decide)) (Int.pow_pos (by decide)), 2 ^ x.2.toNat * 2 ^ y.2.toNat, Int.mul_pos (Int.pow_pos (by decide)) (Int.pow_pos (by decide)), ?_, ?_⟩
  · generalize (2 : Int) ^ y.2.toNat = Y at *
    generalize (2 : Int) ^ x.2.toNat = X at *
    generalize (2 : Int) ^ b = B at *
    generalize (2 : Int) ^ d = D at *
    have : x.1 * Y * (B * D) = (x.1 * B) * (Y * D) := by ac_rfl
    rw [this, v1]; ac_rfl
  · generalize (2 : Int) ^ y.2.toNat = Y at *
    generalize (2 : Int) ^ x.2.toNat = X at *
    generalize (2 : Int) ^ b = B at *
    generalize (2 : Int) ^ d = D at *
    have : y.1 * X * (B * D) = (y.1 * D) * (X * B) := by ac_rfl
    rw [this, v2]; ac_rfl
theorem lt_forms (a c : Int) (b d : Nat) : ((plainZ a b).1 * 2 ^ (plainZ c d).2.toNat < (plainZ c d).1 * 2 ^ (plainZ a b).2.toNat) ↔ (a * 2 ^ d < c * 2 ^ b) := by
  obtain ⟨S, hS, S', hS', e1, e2⟩ := scale a c b d
  constructor
  · intro h
    have h1 := Int.mul_lt_mul_of_pos_right h hS
    rw [e1, e2] at h1
    exact Int.lt_of_mul_lt_mul_right h1 (Int.le_of_lt hS')
  · intro h
    have h1 := Int.mul_lt_mul_of_pos_right h hS'
    rw [← e1, ← e2] at h1
    exact Int.lt_of_mul_lt_mul_right h1 (Int.le_of_lt hS)
theorem eq_forms (a c : Int) (b d : Nat) : ((plainZ a b).1 = (plainZ c d).1 ∧ (plainZ a b).2 = (plainZ c d).2) ↔ (a * 2 ^ d = c * 2 ^ b) := by
  obtain ⟨S, hS, S', hS', e1, e2⟩ := scale a c b d
  have w1 := plainZ_le a b
  have w2 := plainZ_le c d
  constructor
  · rintro ⟨h1, h2⟩
    have h3 : (plainZ a b).1 * 2 ^ (plainZ c d).2.toNat * S = (plainZ c d).1 * 2 ^ (plainZ a b).2.toNat * S := by rw [h1, h2]
    rw [e1, e2] at h3
    exact Int.eq_of_mul_eq_mul_right (Int.ne_of_gt hS') h3
  · intro h
    rw [h, ← e2] at e1
    have h1 := Int.eq_of_mul_eq_mul_right (Int.ne_of_gt hS) e1
    have p1 := plainZ_plain a b
    have p2 := plainZ_plain c d
    have r := plain_one (p := (plainZ a b).2.toNat) (q := (plainZ c d).2.toNat) (by omega) (by omega) h1
    exact ⟨r.1, by omega⟩
theorem bitAnd_one (x : Int) : Builtin.bitAnd x 1 = x % 2 := by
  exact PyProof.Rows.bitAnd_m1 x
end Mine
namespace Mine
open PySem PySem.Spec PyProof.Rows L2
open Evl (Ex)
/-- what of the class Dyadic's text is needed -/
structure FDyadic (K : PySem.W.Frag) : Prop where
  cl : Cls K (He.ga K "Dyadic")
  nt : NoAttr K (He.ga K "Dyadic") "_top"
  np : NoAttr K (He.ga K "Dyadic") "_power"
theorem ktp : ¬ (("_top" : Str) = "_power") := by decide +kernel
/-- its attributes -/
def dfs (t p : Int) : List (Str × V) := putF "_power" (.int p) (putF "_top" (.int t) [])
theorem dfs_top (t p : Int) : (dfs t p).lookup ("_top" : Str) = some (.int t) := by
  unfold dfs
  rw [lookup_putF, if_neg ktp, lookup_putF, if_pos rfl]
theorem dfs_power (t p : Int) : (dfs t p).lookup ("_power" : Str) = some (.int p) := by
  unfold dfs
  rw [lookup_putF, if_pos rfl]
theorem dfs_no (t p : Int) {m : Str} (h1 : ¬ m = "_power") (h2 : ¬ m = "_top") : (dfs t p).lookup m = none := by
  unfold dfs
  rw [lookup_putF, if_neg h1, lookup_putF, if_neg h2]
  all_goals rfl
theorem dfs_len (t p : Int) : (dfs t p).length < 1000 := by
  have h := length_putF "_power" (V.int p) (putF "_top" (V.int t) [])
  have h2 := length_putF "_top" (V.int t) []
  simp only [List.length_nil] at h2
  unfold dfs; omega
def okTop (a b : Int) : Prop := (-1000000000000 ≤ a ∧ a ≤ 1000000000000) ∧ 0 ≤ b ∧ b ≤ 40
/-- a Dyadic stands at a: its plain form's top and power -/
def DyAt (K : PySem.W.Frag) (H : Hp) (a : Addr) (t p : Int) : Prop := ∃ dx, H a = some (.ins (He.ga K "Dyadic") dx (dfs t p))
theorem DyAt.ex {K : PySem.W.Frag} {H H' : Hp} {a : Addr} {t p : Int} (h : DyAt K H a t p) (e : Ex H H') : DyAt K H' a t p :=
  let ⟨dx, q⟩ := h
  ⟨dx, e _ _ q⟩
theorem dy_inj {K : PySem.W.Frag} {H : Hp} {a : Addr} {t p t' p' : Int} (h : DyAt K H a t p) (h' : DyAt K H a t' p') : t = t' ∧ p = p' := by
  obtain ⟨dx, h⟩ := h
  obtain ⟨dx', h'⟩ := h'
  have e := Option.some.inj (h.symm.trans h')
  injection e with _ _ e
  have e1 := congrArg (fun l => List.lookup ("_top" : Str) l) e
  have e2 := congrArg (fun l => List.lookup ("_power" : Str) l) e
  simp only [dfs_top, dfs_power, Option.some.injEq, V.int.injEq] at e1 e2
  exact ⟨e1, e2⟩
theorem dy_tr {K : PySem.W.Frag} {H H' : Hp} {a : Addr} {t p : Int} (e : Ex H H') (h : DyAt K H a t p) : DyAt K H' a t p := h.ex e
theorem dy_prop {K : PySem.W.Frag} {H : Hp} {a : Addr} {t p : Int} {P : Addr → Prop} (h : DyAt K H a t p) (q : P a) :
    ∃ b dx fs, V.ref a = V.ref b ∧ H b = some (HO.ins (He.ga K "Dyadic") dx fs) ∧ P b :=
  let ⟨dx, e⟩ := h
  ⟨a, dx, _, rfl, e, q⟩
theorem dy_isC {K : PySem.W.Frag} {H : Hp} {Q : VK} {a : Addr} {t p : Int} (h : DyAt K H a t p) (q : Q (.bl true) H) : rIsC (He.ga K "Dyadic") [.ref a, .ref (He.ga K "Dyadic")] H Q :=
  let ⟨dx, e⟩ := h
  ⟨a, dx, _, rfl, e, q⟩
/-- x.m(..): what a method call asks of a Dyadic -/
theorem dy_meth {K : PySem.W.Frag} {H : Hp} {a : Addr} {t p : Int} {m : Str} {P : Prop} (h : DyAt K H a t p) (h1 : ¬ m = "_power") (h2 : ¬ m = "_top") (q : P) :
    ∃ b dx fs, V.ref a = V.ref b ∧ H b = some (HO.ins (He.ga K "Dyadic") dx fs) ∧ fs.lookup m = none ∧ P :=
  let ⟨dx, e⟩ := h
  ⟨a, dx, _, rfl, e, dfs_no _ _ h1 h2, q⟩
end Mine
namespace Mine
open PySem PySem.Spec PyProof.Rows L2
/-! dicts whose keys are pairs of tuples of ints and whose values are ints -/
abbrev Pr := List Int × List Int
def keyOf (p : Pr) : NestedKey := .tup [.tup (p.1.map .num), .tup (p.2.map .num)]
theorem nums_inj : ∀ {a b : List Int}, a.map NestedKey.num = b.map NestedKey.num → a = b
  | [], [], _ => rfl
  | [], _ :: _, e => by simp at e
  | _ :: _, [], e => by simp at e
  | x :: xs, y :: ys, e => by
    rw [List.map_cons, List.map_cons] at e
    injection e with e1 e2
    injection e1 with e1
    rw [e1, nums_inj e2]
theorem keyOf_inj {p q : Pr} (h : keyOf p = keyOf q) : p = q := by
  unfold keyOf at h
  injection h with h
  injection h with h1 h2
  injection h2 with h2 _
  injection h1 with h1
  injection h2 with h2
  exact Prod.ext (nums_inj h1) (nums_inj h2)
theorem nums_flat : ∀ l : List Int, NestedKey.depthAll (l.map .num) = 0
  | [] => rfl
  | x :: l => by
    rw [List.map_cons, NestedKey.depthAll, nums_flat l]
    rfl
theorem keyOf_deep (p : Pr) : (keyOf p).depth ≤ 8 := by
  unfold keyOf
  simp only [NestedKey.depth, NestedKey.depthAll, nums_flat]
  decide
/-- the tuple at b is the pair p of tuples of ints -/
def PrT (H : Hp) (b : Addr) (p : Pr) : Prop := ∃ c d, H b = some (.tup [.ref c, .ref d]) ∧ H c = some (.tup (p.1.map V.int)) ∧ H d = some (.tup (p.2.map V.int))
theorem PrT.ex {H H' : Hp} {b : Addr} {p : Pr} (t : PrT H b p) (k : ∀ c xs, H c = some (.tup xs) → H' c = some (.tup xs)) : PrT H' b p :=
  let ⟨c, d, h1, h2, h3⟩ := t
  ⟨c, d, k _ _ h1, k _ _ h2, k _ _ h3⟩
theorem nested_ints {h : Heap} : ∀ {ns : List Int} {us : List Value}, Vals (ns.map V.int) us → NestedAll h (ns.map .num) us
  | [], _, r => by rw [List.map_nil] at r; cases r; exact .nil
  | n :: ns, _, r => by
    rw [List.map_cons] at r
    cases r with
    | cons h t =>
      obtain ⟨tk, rfl⟩ := h
      exact .cons (.int n tk) (nested_ints t)
section
variable {P : Program} {w : World} {H : Hp} {h : Heap} {a b : Addr} {p : Pr}
theorem nested_tup {ns : List Int} (ok : HOk P w H h) (e : H a = some (.tup (ns.map V.int))) : NestedIs h (.tup (ns.map .num)) (.ref a) := by
  obtain ⟨_, its, r, o, h1, h2, n, h3⟩ := (show ObjOk P w H h a (.tup (ns.map V.int)) from ok a _ e)
  exact .tup h1 h2 h3 (by simpa using nested_ints r)
theorem PrT.key (t : PrT H b p) (ok : HOk P w H h) : (nestedKind P w).is h (keyOf p) b := by
  obtain ⟨c, d, e, ec, ed⟩ := t
  refine ⟨?_, keyOf_deep p⟩
  obtain ⟨_, its, r, o, h1, h2, n, h3⟩ := (show ObjOk P w H h b (.tup [.ref c, .ref d]) from ok b _ e)
  cases r with
  | cons r1 t1 =>
    cases t1 with
    | cons r2 t2 =>
      cases t2
      cases r1
      cases r2
      exact .tup h1 h2 h3 (.cons (nested_tup ok ec) (.cons (nested_tup ok ed) .nil))
end
abbrev Ent := Pr × Addr × Int
abbrev NP : List Ent → List (NestedKey × Addr × Value) → Prop := Paired fun p q => q.1 = keyOf p.1 ∧ q.2.1 = p.2.1 ∧ ∃ t, q.2.2 = Value.int p.2.2 t
def look (kvs : List Ent) (p : Pr) : Option Int := (kvs.find? fun e => decide (e.1 = p)).map (·.2.2)
theorem NP.look {kvs : List Ent} {xs : List (NestedKey × Addr × Value)} (r : NP kvs xs) (p : Pr) : RelO ((look kvs p).map V.int) ((atKey xs (keyOf p)).map (·.2)) := by
  induction r with
  | nil => exact True.intro
  | @cons e q es qs h t ih =>
    obtain ⟨h1, h2, tk, h3⟩ := h
    by_cases z : e.1 = p
    · have b : atKey (q :: qs) (keyOf p) = some q.2 := by simp [atKey, List.find?_cons, h1, z]
      have c : Mine.look (e :: es) p = some e.2.2 := by simp [Mine.look, List.find?_cons, z]
      rw [b, c]
      exact ⟨tk, h3⟩
    · have z' : ¬ q.1 = keyOf p := fun y => z (keyOf_inj (h1.symm.trans y))
      have b : atKey (q :: qs) (keyOf p) = atKey qs (keyOf p) := by simp [atKey, List.find?_cons, z']
      have c : Mine.look (e :: es) p = Mine.look es p := by simp [Mine.look, List.find?_cons, z]
      rw [b, c]
      exact ih
theorem NP.none_of {kvs : List Ent} {xs : List (NestedKey × Addr × Value)} (r : NP kvs xs) {p : Pr} (h : Mine.look kvs p = none) : atKey xs (keyOf p) = none := by
  have z := NP.look r p
  rw [h] at z
  cases q : atKey xs (keyOf p) with
  | none => rfl
  | some y => rw [q] at z; exact z.elim
theorem NP.len {kvs : List Ent} {xs : List (NestedKey × Addr × Value)} (r : NP kvs xs) : kvs.length = xs.length := Paired.length r
/-- what stands at a -/
def NdR (P : Program) (w : World) (h : Heap) (a : Addr) (kvs : List Ent) : Prop := kvs.length ≤ sizeLine ∧ (a == sysModules) = false ∧ ∃ xs : List (NestedKey × Addr × Value), NP kvs xs ∧
  ∃ o es ep, h.get? a = some o ∧ o.ExactDict ∧ o.data = .dict es ep ∧ es.toList = xs.map (entryOfKey (nestedKind P w)) ∧ (xs.map (·.1)).Nodup
def NdO (P : Program) (w : World) (a : Addr) (kvs : List Ent) : HO := .ext fun h => NdR P w h a kvs
def Keys (H : Hp) (kvs : List Ent) : Prop := ∀ e ∈ kvs, PrT H e.2.1 e.1
theorem NP.keys {P : Program} {w : World} {H : Hp} {h : Heap} (ok : HOk P w H h) {kvs : List Ent} {xs : List (NestedKey × Addr × Value)} (r : NP kvs xs) : (∀ e ∈ kvs, PrT H e.2.1 e.1) → ∀ x ∈ xs, (nestedKind P w).is h x.1 x.2.1 := by
  induction r with
  | nil => intro _ x hx; exact nomatch hx
  | @cons e q es qs hq t ih =>
    intro k x hx
    rcases List.mem_cons.mp hx with z | hx
    · subst z
      obtain ⟨h1, h2, _⟩ := hq
      rw [h1, h2]
      exact (k e List.mem_cons_self).key ok
    · exact ih (fun e' m => k e' (List.mem_cons_of_mem _ m)) x hx
theorem nd_at {P : Program} {w : World} {H : Hp} {h : Heap} {a : Addr} {kvs : List Ent} (ok : HOk P w H h) (e : H a = some (NdO P w a kvs)) (k : Keys H kvs) :
    kvs.length ≤ sizeLine ∧ (a == sysModules) = false ∧ ∃ xs, NP kvs xs ∧ h.DictOfH (nestedKind P w) a xs := by
  obtain ⟨z, y, xs, r, o, es, ep, h1, h2, h3, h4, h5⟩ := (ok a _ e).1
  exact ⟨z, y, xs, r, o, es, ep, h1, h2, h3, h4, NP.keys ok r k, h5⟩
theorem nd_new {P : Program} {w : World} {H : Hp} {h : Heap} {a : Addr} {kvs : List Ent} (R : NdR P w h a kvs) : ObjOk P w H h a (NdO P w a kvs) := by
  have ⟨_, _, _, _, o, _, _, ho, _⟩ := R
  refine ⟨R, ⟨o, ho⟩, fun h1 h2 p k => ?_⟩
  obtain ⟨z, y, xs, r, o, es, ep, g1, g⟩ := p
  exact ⟨z, y, xs, r, o, es, ep, k _ g1, g⟩
section
variable {X : Cx} {pins : List (Addr × Obj)} {σ : L2.St} {H : Hp} {s : Shared} {a b : Addr} {kvs : List Ent} {p : Pr} {A : Around} {E : Value → Shared → Prop}
theorem n_get {v : Int} {Q : Value → Shared → Prop} (hu : A.units + 9 < cLine) (I : Inv X pins σ H s) (e : H a = some (NdO X.prog X.w a kvs)) (k : Keys H kvs) (kb : PrT H b p) (l : look kvs p = some v)
    (h : ∀ w' s', Inv X pins σ H s' → RelV (.int v) w' → Q w' s') : wpAny (model X.prog X.w) A (getItem (.ref a) (.ref b)) Q E s := by
  obtain ⟨z, hd, xs, r, dd⟩ := nd_at I.hok e k
  have rl := NP.look r p
  rw [l] at rl
  cases q : atKey xs (keyOf p) with
  | none => rw [q] at rl; exact rl.elim
  | some y =>
    rw [q] at rl
    exact wpAny_getItem_heap (knd := nestedKind X.prog X.w) (show A.in1.units + 8 < cLine by rw [Around.in1_units]; omega) (kb.key I.hok) dd q (h y.2 _ (I.tok _) rl)
theorem n_notin {Q : Value → Shared → Prop} (hu : A.units + 9 < cLine) (I : Inv X pins σ H s) (e : H a = some (NdO X.prog X.w a kvs)) (k : Keys H kvs) (kb : PrT H b p)
    (h : ∀ s', Inv X pins σ H s' → Q (.bool (!(look kvs p).isSome)) s') : wpAny (model X.prog X.w) A (compareOp .NotIn (.ref b) (.ref a)) Q E s := by
  obtain ⟨z, hd, xs, r, dd⟩ := nd_at I.hok e k
  refine wpAny_notIn_heap (knd := nestedKind X.prog X.w) (show A.in1.units + 8 < cLine by rw [Around.in1_units]; omega) (kb.key I.hok) hd dd ?_
  have rl := NP.look r p
  have e2 : (atKey xs (keyOf p)).isSome = (look kvs p).isSome := by
    cases q : atKey xs (keyOf p) with
    | none =>
      cases q2 : look kvs p with
      | none => rfl
      | some v => rw [q, q2] at rl; exact rl.elim
    | some y =>
      cases q2 : look kvs p with
      | none => rw [q, q2] at rl; exact rl.elim
      | some v => rfl
  rw [e2]
  exact h _ (I.tok _)
theorem n_put {v : Int} {u : Value} {Q : Unit → Shared → Prop} (hu : A.units + 9 < cLine) (I : Inv X pins σ H s) (e : H a = some (NdO X.prog X.w a kvs)) (k : Keys H kvs) (kb : PrT H b p) (l : look kvs p = none) (hl : kvs.length < sizeLine) (ru : RelV (.int v) u)
    (h : ∀ s', Inv X pins σ (upd H a (NdO X.prog X.w a (kvs ++ [(p, b, v)]))) s' → Q () s') : wpAny (model X.prog X.w) A (setItem (.ref a) (.ref b) u) Q E s := by
  obtain ⟨z, hd, xs, r, dd⟩ := nd_at I.hok e k
  have hz : xs.length ≤ sizeLine := by rw [← NP.len r]; exact z
  have hn := NP.none_of r l
  refine wpAny_setItem_heap (hsz := hz) (knd := nestedKind X.prog X.w) (show A.in1.units + 8 < cLine by rw [Around.in1_units]; omega) (kb.key I.hok) dd fun h' dd' hs => h _ ?_
  rw [storedH_new hn] at dd'
  obtain ⟨q, es, ep, hq, h2, h3, h4, _, h5⟩ := dd'
  refine I.write (x := a) (e := a) (by rw [e]; exact True.intro) (.inl rfl) (fun c u hc y => (hs.2 c hc).trans y) ⟨q, hq⟩ (nd_new ⟨?_, hd, _, Paired.snoc r ⟨rfl, rfl, (show ∃ tk, u = Value.int v tk from ru)⟩, q, es, ep, hq, h2, h3, h4, h5⟩)
  rw [List.length_append, List.length_singleton]
  omega
end
/-! readings and rules -/
/-- d[k] -/
def tNGet (P : Program) (w : World) (td ty : TE) : TE := fun σ H Q => td σ H fun x H1 => ty σ H1 fun y H2 => ∃ a b kvs p v, x = V.ref a ∧ y = V.ref b ∧ H2 a = some (NdO P w a kvs) ∧ Keys H2 kvs ∧ PrT H2 b p ∧ look kvs p = some v ∧ Q (.int v) H2
/-- k not in d -/
def tNNot (P : Program) (w : World) (ty td : TE) : TE := fun σ H Q => ty σ H fun y H1 => td σ H1 fun x H2 => ∃ a b kvs p, x = V.ref a ∧ y = V.ref b ∧ H2 a = some (NdO P w a kvs) ∧ Keys H2 kvs ∧ PrT H2 b p ∧ Q (.bl (!(look kvs p).isSome)) H2
/-- d[k] = v, a new key -/
def sNPut (P : Program) (w : World) (td ty tv : TE) : TS := fun D σ H => tv σ H fun z H1 => td σ H1 fun x H2 => ty σ H2 fun y H3 => ∃ a b kvs p v, z = V.int v ∧ x = V.ref a ∧ y = V.ref b ∧ H3 a = some (NdO P w a kvs) ∧ Keys H3 kvs ∧ PrT H3 b p ∧ look kvs p = none ∧
  kvs.length < sizeLine ∧ D.nx σ (upd H3 a (NdO P w a (kvs ++ [(p, b, v)])))
/-- {k: v} -/
def tNDisp (P : Program) (w : World) (tk tv : TE) : TE := fun σ H Q => ∀ d, H d = none → tk σ (upd H d (NdO P w d [])) fun y H1 => tv σ H1 fun z H2 => ∃ b p v, y = V.ref b ∧ z = V.int v ∧ H2 d = some (NdO P w d []) ∧ PrT H2 b p ∧
  Q (.ref d) (upd H2 d (NdO P w d [(p, b, v)]))
section
variable {X : Cx} {o i e value : Expr} {pos pos' : Pos} {td ty tv tk : TE}
theorem nd_type {P : Program} {w : World} {s : Shared} {H : Hp} {a : Addr} {kvs : List Ent} (ok : HOk P w H s.heap) (e : H a = some (NdO P w a kvs)) : s.TypeIs (.ref a) "dict" := by
  obtain ⟨_, _, _, _, o, es, ep, h1, h2, _⟩ := (ok a _ e).1
  exact ⟨o, h1, h2.1⟩
theorem pe_nget (hu : X.A.units + 9 < cLine) (ho : PE X o td) (hi : PE X i ty) (hs : NoSl i) : PE X (.Subscript o i pos) (tNGet X.prog X.w td ty) := by
  refine ⟨fun pins s σ H Q I h => ?_⟩
  refine subD_of PySem.F.slot_dict_getitem.lookup hs (thn (ho.run pins s σ H _ I h) fun u s1 z1 => ?_)
  obtain ⟨x, H1, I1, rx, q1⟩ := z1
  refine thn (hi.run pins s1 σ H1 _ I1 q1) fun iv s2 z2 => ?_
  obtain ⟨y, H2, I2, ry, a, b, kvs, p, v, ex, ey, g, kk, kb, l, q2⟩ := z2
  subst ex ey
  obtain rfl : u = Value.ref a := rx
  obtain rfl : iv = Value.ref b := ry
  exact ⟨nd_type I2.hok g, n_get hu I2 g kk kb l fun w' s3 I3 rw' => ⟨.int v, H2, I3, rw', q2⟩⟩
theorem pc_nnot (hu : X.A.units + 9 < cLine) (hi : PE X i ty) (ho : PE X o td) : PC X .NotIn i o (tNNot X.prog X.w ty td) := by
  refine ⟨fun pins s σ H Q I h => ?_⟩
  refine thn (hi.run pins s σ H _ I h) fun iv s1 z1 => ?_
  obtain ⟨y, H1, I1, ry, q1⟩ := z1
  refine thn (ho.run pins s1 σ H1 _ I1 q1) fun u s2 z2 => ?_
  obtain ⟨x, H2, I2, rx, a, b, kvs, p, ex, ey, g, kk, kb, q2⟩ := z2
  subst ex ey
  obtain rfl : u = Value.ref a := rx
  obtain rfl : iv = Value.ref b := ry
  exact n_notin hu I2 g kk kb fun s3 I3 => ⟨.bl (!(look kvs p).isSome), H2, I3, rfl, q2⟩
theorem ps_nput (hu : X.A.units + 9 < cLine) (ho : PE X o td) (hi : PE X i ty) (hv : PE X value tv) (hs : swapsWith value (some (.Subscript o i pos')) pos.line X.env = pure false) :
    PS X (.Assign [.Subscript o i pos'] value pos) (sNPut X.prog X.w td ty tv) := by
  refine ⟨fun pins s σ H D I h => ?_⟩
  refine wpAny_Assign_Subscript (thn (hv.run pins s σ H _ I h) fun r s1 z1 => ?_) hs
  obtain ⟨z, H1, I1, rv, q1⟩ := z1
  refine thn (ho.run pins s1 σ H1 _ I1 q1) fun u s2 z2 => ?_
  obtain ⟨x, H2, I2, rx, q2⟩ := z2
  refine thn (hi.run pins s2 σ H2 _ I2 q2) fun iv s3 z3 => ?_
  obtain ⟨y, H3, I3, ry, a, b, kvs, p, v, ez, ex, ey, g, kk, kb, l, hl, q3⟩ := z3
  subst ex ey ez
  obtain rfl : u = Value.ref a := rx
  obtain rfl : iv = Value.ref b := ry
  exact n_put hu I3 g kk kb l hl rv fun s4 I4 => ⟨σ, _, I4, q3⟩
theorem pe_ndisp {k v : Expr} (hu : X.A.units + 9 < cLine) (hk : PE X k tk) (hv : PE X v tv) : PE X (.Dict [some k] [v] pos) (tNDisp X.prog X.w tk tv) := by
  refine ⟨fun pins s σ H Q I h => ?_⟩
  have hn := I.hok.fresh (Nat.le_refl s.heap.objs.size)
  have hb := I.big
  have R0 : NdR X.prog X.w (s.heap.push { cls := .type "dict", data := .dict #[] }) s.heap.objs.size [] :=
    ⟨Nat.zero_le _, beq_eq_false_iff_ne.mpr (Ne.symm (Nat.ne_of_lt hb)), [], .nil, _, #[], 0, Heap.get?_push_size _ rfl, ⟨rfl, rfl, rfl⟩, rfl, rfl, List.nodup_nil⟩
  have I1 := I.laid (a := s.heap.objs.size) (o := NdO X.prog X.w s.heap.objs.size []) (h' := s.heap.push { cls := .type "dict", data := .dict #[] }) (t' := s.toks) (fun _ _ q => Heap.get?_push_of_some _ q) (Nat.le_refl _) (nd_new R0)
  refine wpAny_Dict_any rfl rfl (by simp) (show 1 ≤ 15 by decide) ?_
  refine pairTrees_cons_walk (thn (hk.run pins _ σ _ _ I1 (h _ hn)) fun u s1 z1 => ?_)
  obtain ⟨y, H1, I2, ry, q1⟩ := z1
  refine thn (hv.run pins s1 σ H1 _ I2 q1) fun u2 s2 z2 => ?_
  obtain ⟨z, H2, I3, rz, b, p, n, ey, ez, g, kb, q2⟩ := z2
  subst ey ez
  obtain rfl : u = Value.ref b := ry
  refine pairTrees_nil_walk ?_
  unfold storeAll
  rw [List.forIn_cons]
  obtain ⟨zz, hd, xs, r, dd⟩ := nd_at I3.hok g (fun e m => nomatch m)
  cases r
  refine wpAny_bind (wpAny_bind (wpAny_dictSet_heap (hsz := Nat.zero_le _) (knd := nestedKind X.prog X.w) (show X.A.units + 8 < cLine by omega) (kb.key I3.hok) dd fun h' dd' hs => ?_))
  refine wpAny_pure ?_
  dsimp only
  rw [List.forIn_nil]
  refine wpAny_pure ⟨.ref s.heap.objs.size, _, ?_, rfl, q2⟩
  rw [storedH_new rfl] at dd'
  obtain ⟨q, es, ep, hq, h2, h3, h4, _, h5⟩ := dd'
  exact I3.write (x := s.heap.objs.size) (e := s.heap.objs.size) (by rw [g]; exact True.intro) (.inl rfl) (fun c u hc y => (hs.2 c hc).trans y) ⟨q, hq⟩ (nd_new ⟨(show 1 ≤ sizeLine by decide), hd, _, .cons ⟨rfl, rfl, (show ∃ tk, u2 = Value.int n tk from rz)⟩ .nil, q, es, ep, hq, h2, h3, h4, h5⟩)
end
end Mine
namespace Mine
open PySem PySem.Spec PyProof.Rows L2
open Sem (wp)
/-! set(xs) of a list of isI -/
abbrev emO (w : World) : Obj := { cls := .type "set", dict := none, data := .set #[] 0 (.fresh 0 0 (!w.params.followText "set-order")) }
section
variable {P : Program} {w : World} {A : Around} {E : Value → Shared → Prop} {s : Shared}
/-- the new set S holds the isI of ns, all else is kept -/
structure Filled (w : World) (h h' : Heap) (S : Addr) (ns : List Int) (c : Nat) : Prop where
  set : SetR w h' S (fun j => decide (j ∈ ns)) c
  few : c ≤ ns.length
  old : ∀ b o, h.get? b = some o → h'.get? b = some o
set_option maxHeartbeats 3200000 in
theorem set_of_ints {l : Addr} {xs : Array Value} (ns : List Int) {Q : Value → Shared → Prop} (calm : A.handled = none) (at_l : s.heap.IsList l xs) (isI : IntsAre xs.toList ns) (room : ns.length + 1 < scanBound)
    (q : ∀ (g : Heap) (tk c : Nat), Filled w s.heap g s.heap.objs.size ns c → Q (.ref s.heap.objs.size) { s with heap := g, toks := tk }) : wpAny (model P w) A (call (.type "set") [.ref l]) Q E s := by
  have many : xs.size = ns.length := by rw [← IntsAre.length isI, Array.length_toList]
  let h1 : Heap := s.heap.push (emO w)
  have hd : h1 = s.heap.push (emO w) := rfl
  have zS : h1.get? s.heap.objs.size = some (emO w) := Heap.get?_push_size _ rfl
  have sz1 : h1.objs.size = s.heap.objs.size + 1 := Heap.size_push ..
  have lt_l : l < s.heap.objs.size := let ⟨o, ho, _⟩ := at_l; Heap.lt_size ho
  have ty1 : Shared.TypeIs { s with heap := h1 } (.ref s.heap.objs.size) "set" := ⟨_, zS, rfl⟩
  have ls1 : h1.IsList l xs := at_l.push _
  clear_value h1
  obtain ⟨c0, t0, m0⟩ := F.called_set.mro
  have m1 := F.called_set.made; have m2 := F.called_set.sub; have m3 := F.called_set.notType; have m4 := F.called_set.canCreate
  have m5 := F.typeCall_set_1 (.ref l); have m6 := F.called_set.init.lookup; have m7 := F.called_set.init.bind (.ref s.heap.objs.size)
  refine wpAny_call (codeAny_of_tree (show wpAny _ _ (callAny (.type "set") _) _ _ _ from ?_))
  refine wpAny_pure ⟨Code.quiet_builtin _ (by decide +kernel), codeAny_builtin F.entry_type_call ?_⟩
  rw [Around.under_plain (weight_type_call_type "set" [.ref l] []) rfl]
  repeat (any_goals (first | assumption | wp_step))
  refine codeAny_mono (code_set_led1 (.ref l) (E := E) (Q₁ := fun v s' => v = .ref s.heap.objs.size ∧ s' = { s with heap := h1 }) ⟨rfl, by rw [hd]⟩) fun r s' hr => ?_
  rcases r with e | fl
  · exact hr
  cases fl with
  | ret v =>
    obtain ⟨rfl, rfl⟩ := hr
    repeat (any_goals (first | assumption | wp_step))
    refine codeAny_mono (codeAny_call_builtin (R := wants (fun v s' => v = .none ∧ ∃ g tk c, s' = { s with heap := g, toks := tk } ∧ Filled w s.heap g s.heap.objs.size ns c) E) F.called_set.init.plain F.entry_set_init (check_set_init_1 ty1 ?_)) fun r s' hr => ?_
    · obtain ⟨⟨oc, od, oa, os⟩, got, e1, n1, e2⟩ := at_l
      simp only at e1 e2
      subst e1; subst e2
      have got1 : h1.get? l = some { cls := .type "list", dict := od, data := .seq xs n1, slots := os } := by rw [hd]; exact Heap.get?_push_of_some _ got
      have k1 := F.sub_list_set; have k2 := F.sub_list_frozenset
      have k3 : (Value.type "list" == Value.type "dict") = false := by decide
      unfold Builtin.«set.__init__» noKeywords Builtin.Frozenset.updateFrom
      generalize hit : pyIter = IT
      wp_walk
      subst hit
      refine wpAny_pyIter_list ls1 (wpAny_bind (wpAny_runValue ?_))
      have calm3 : A.in1.in1.in1.handled = none := by simp [calm]
      have apart : l ≠ h1.objs.size := by rw [sz1]; exact Nat.ne_of_lt (Nat.lt_succ_of_lt lt_l)
      have notin : s.heap.objs.size ∉ [h1.objs.size, l] := by
        rw [sz1]
        intro m
        rcases List.mem_cons.mp m with e | m
        · exact absurd e (Nat.ne_of_lt (Nat.lt_succ_self _))
        · rw [List.mem_singleton] at m
          exact absurd lt_l (by rw [← m]; exact Nat.lt_irrefl _)
      refine set_update_ints ((Walks.list calm3 _ l apart xs).toS) s.heap.objs.size notin ns many room (fun i v hv => ?_) xs.size 0 _ (by omega) (Nat.zero_le _) ⟨⟨_, Heap.get?_push_size _ rfl, rfl, rfl⟩, ls1.push _⟩ ⟨0, Nat.le_refl 0, setR_new_at (Heap.get?_push_of_some _ zS)⟩ fun s' c moved le R => ?_
      · have hi : i < ns.length := by rw [← many]; exact (Array.getElem?_eq_some_iff.mp hv).1
        obtain ⟨t, e⟩ := PyProof.Rows.IntsAre.int_at isI i v (by rw [Array.getElem?_toList]; exact hv)
        exact ⟨ns[i], t, List.getElem?_eq_getElem hi, by rw [e, List.getD_eq_getElem?_getD, List.getElem?_eq_getElem hi]; rfl⟩
      · obtain ⟨g, g2, d2, tk, o2⟩ := s'
        obtain rfl : g2 = s.gens := moved.gens
        obtain rfl : d2 = s.drawn := moved.drawn
        obtain rfl : o2 = s.os := moved.os
        refine (show wpAny _ _ _ _ _ _ from wpAny_pure (show wpAny _ _ (ret Value.none) _ _ _ from wpAny_pure ⟨rfl, g, tk, c, rfl, R, by rw [← many]; exact le, fun b o e => ?_⟩))
        have lt := Heap.lt_size e
        refine moved.heap b o (fun m => ?_) (Heap.get?_push_of_some _ (by rw [hd]; exact Heap.get?_push_of_some _ e))
        rcases List.mem_cons.mp m with z | m
        · exact absurd lt (by rw [z]; exact Nat.lt_irrefl _)
        · rw [List.mem_singleton, sz1] at m
          exact absurd lt (by rw [m]; exact Nat.not_lt_of_le (Nat.le_succ _))
    · rcases r with e | fl
      · exact hr
      cases fl with
      | ret v =>
        obtain ⟨rfl, g, tk, c, rfl, R⟩ := hr
        repeat (any_goals (first | assumption | wp_step))
        exact q g tk c R
      | _ => exact hr.elim
  | _ => exact hr.elim
end
section
variable {X : Cx}
/-- set(xs), xs a list of ints -/
def rSetL (K : PySem.W.Frag) (w : World) : List V → Hp → VK → Prop := fun vs H Q => ∃ (l : Addr) (ns : List Int), vs = [V.ref l] ∧ SqL K H l (ns.map V.int) ∧ ns.length + 1 < scanBound ∧
  ∀ (p : Addr) (c : Nat), H p = none → c ≤ ns.length → Q (.ref p) (upd H p (SetO w p (fun j => decide (j ∈ ns)) c))
theorem cr_setL (hc : X.calm = true) : CallR X (.type "set") (rSetL X.K X.w) := by
  intro pins s σ H vs us Q I r h
  obtain ⟨l, ns, rfl, hl, hb, q⟩ := h
  rw [Vals.ref1 r]
  obtain ⟨its, rv, ⟨ob, n, ho, h1, _, h2⟩, hlen⟩ := I.list hl
  refine set_of_ints ns (I.ok.hd hc) ⟨ob, ho, h1, n, h2⟩ (ints_of_vals (by simpa using rv)) hb fun g tk c f => ?_
  have hn := I.hok.fresh (Nat.le_refl s.heap.objs.size)
  exact ⟨.ref s.heap.objs.size, _, I.laid (a := s.heap.objs.size) (o := SetO X.w s.heap.objs.size (fun j => decide (j ∈ ns)) c) (t' := tk) f.old (Nat.le_refl _) (setO_new f.set), rfl, q _ c hn f.few⟩
end
end Mine
namespace Mine
open PySem PySem.Spec PyProof.Rows L2
open Evl (Ex)
/-! yards: what stands in the heap -/
structure FYard (K : PySem.W.Frag) : Prop where
  cl : Cls K (He.ga K "Yard")
  nl : NoAttr K (He.ga K "Yard") "_lefts"
  nr : NoAttr K (He.ga K "Yard") "_rights"
  nh : NoAttr K (He.ga K "Yard") "_heights"
  nn : NoAttr K (He.ga K "Yard") "_numbers"
  nt : NoAttr K (He.ga K "Yard") "_turned"
structure Foot where
  y : Addr
  dx : Addr
  l : Addr
  r : Addr
  h : Addr
  n : Addr
  t : Addr
theorem klr : ¬ (("_lefts" : Str) = "_rights") := by decide +kernel
theorem klh : ¬ (("_lefts" : Str) = "_heights") := by decide +kernel
theorem kln : ¬ (("_lefts" : Str) = "_numbers") := by decide +kernel
theorem klt : ¬ (("_lefts" : Str) = "_turned") := by decide +kernel
theorem krh : ¬ (("_rights" : Str) = "_heights") := by decide +kernel
theorem krn : ¬ (("_rights" : Str) = "_numbers") := by decide +kernel
theorem krt : ¬ (("_rights" : Str) = "_turned") := by decide +kernel
theorem khn : ¬ (("_heights" : Str) = "_numbers") := by decide +kernel
theorem kht : ¬ (("_heights" : Str) = "_turned") := by decide +kernel
theorem knt : ¬ (("_numbers" : Str) = "_turned") := by decide +kernel
def yfs (F : Foot) : List (Str × V) := putF "_turned" (.ref F.t) (putF "_numbers" (.ref F.n) (putF "_heights" (.ref F.h) (putF "_rights" (.ref F.r) (putF "_lefts" (.ref F.l) []))))
theorem yfs_l (F : Foot) : (yfs F).lookup ("_lefts" : Str) = some (.ref F.l) := by
  unfold yfs
  rw [lookup_putF, if_neg klt, lookup_putF, if_neg kln, lookup_putF, if_neg klh, lookup_putF, if_neg klr, lookup_putF, if_pos rfl]
theorem yfs_r (F : Foot) : (yfs F).lookup ("_rights" : Str) = some (.ref F.r) := by
  unfold yfs
  rw [lookup_putF, if_neg krt, lookup_putF, if_neg krn, lookup_putF, if_neg krh, lookup_putF, if_pos rfl]
theorem yfs_h (F : Foot) : (yfs F).lookup ("_heights" : Str) = some (.ref F.h) := by
  unfold yfs
  rw [lookup_putF, if_neg kht, lookup_putF, if_neg khn, lookup_putF, if_pos rfl]
theorem yfs_n (F : Foot) : (yfs F).lookup ("_numbers" : Str) = some (.ref F.n) := by
  unfold yfs
  rw [lookup_putF, if_neg knt, lookup_putF, if_pos rfl]
theorem yfs_t (F : Foot) : (yfs F).lookup ("_turned" : Str) = some (.ref F.t) := by
  unfold yfs
  rw [lookup_putF, if_pos rfl]
theorem yfs_no (F : Foot) {m : Str} (h1 : ¬ m = "_turned") (h2 : ¬ m = "_numbers") (h3 : ¬ m = "_heights") (h4 : ¬ m = "_rights") (h5 : ¬ m = "_lefts") : (yfs F).lookup m = none := by
  unfold yfs
  rw [lookup_putF, if_neg h1, lookup_putF, if_neg h2, lookup_putF, if_neg h3, lookup_putF, if_neg h4, lookup_putF, if_neg h5]
  rfl
/-- refs to tuples of ints -/
def Rows (H : Hp) (xs : List V) (gs : List (List Int)) : Prop := xs.length = gs.length ∧ ∀ (i : Nat) (g : List Int), gs[i]? = some g → ∃ a, xs[i]? = some (.ref a) ∧ H a = some (.tup (g.map V.int))
theorem Rows.ex {H H' : Hp} {xs : List V} {gs : List (List Int)} (r : Rows H xs gs) (k : ∀ c ys, H c = some (.tup ys) → H' c = some (.tup ys)) : Rows H' xs gs :=
  ⟨r.1, fun i g e => let ⟨a, h1, h2⟩ := r.2 i g e; ⟨a, h1, k _ _ h2⟩⟩
theorem Rows.snoc {H : Hp} {xs : List V} {gs : List (List Int)} (r : Rows H xs gs) {a : Addr} {g : List Int} (e : H a = some (.tup (g.map V.int))) : Rows H (xs ++ [.ref a]) (gs ++ [g]) := by
  refine ⟨by rw [List.length_append, List.length_append, r.1]; rfl, fun i g' z => ?_⟩
  by_cases h : i < gs.length
  · rw [List.getElem?_append_left h] at z
    obtain ⟨b, h1, h2⟩ := r.2 i g' z
    exact ⟨b, by rw [List.getElem?_append_left (by rw [r.1]; exact h)]; exact h1, h2⟩
  · have hi : i = gs.length := by
      have := (List.getElem?_eq_some_iff.mp z).1
      rw [List.length_append, List.length_singleton] at this
      omega
    subst hi
    rw [List.getElem?_append_right (Nat.le_refl _), Nat.sub_self] at z
    have e2 : g' = g := by injection z with z; exact z.symm
    subst e2
    exact ⟨a, by rw [← r.1, List.getElem?_append_right (Nat.le_refl _), Nat.sub_self]; rfl, e⟩
/-- the entries of the dict of forms -/
def EntOf (G : List Pr) (kvs : List Ent) : Prop := kvs.length = G.length ∧ ∀ (i : Nat) (g : Pr), G[i]? = some g → ∃ b, kvs[i]? = some (g, b, (i : Int))
/-- a list of ints, strictly ascending, from 0 on below n -/
def Asc (n : Nat) (l : List Int) : Prop := l.Pairwise (· < ·) ∧ ∀ x ∈ l, 0 ≤ x ∧ x < (n : Int)
/-- the forms of a yard's games, one behind the other -/
structure Forms (G : List Pr) : Prop where
  zero : G[0]? = some ([], [])
  one : G.Nodup
  asc : ∀ (i : Nat) (g : Pr), G[i]? = some g → Asc i g.1 ∧ Asc i g.2
/-- the height k of a list of heights -/
def hat (hs : List Int) (k : Int) : Int := hs.getD k.toNat 0
/-- h is the height of the form g, by the heights of its options -/
def IsHt (hs : List Int) (g : Pr) (h : Int) : Prop := (g.1 ++ g.2 = [] ∧ h = 0) ∨ ∃ m, m ∈ (g.1 ++ g.2).map (hat hs) ∧ (∀ y ∈ (g.1 ++ g.2).map (hat hs), y ≤ m) ∧ h = 1 + m
def HtOk (G : List Pr) (hs : List Int) : Prop := ∀ (i : Nat) (g : Pr), G[i]? = some g → IsHt hs g (hat hs i)
structure YardAt (P : Program) (w : World) (K : PySem.W.Frag) (H : Hp) (F : Foot) (G : List Pr) (hv : List Int) (ts : List (Key × V)) : Prop where
  ins : H F.y = some (.ins (He.ga K "Yard") F.dx (yfs F))
  ls : ∃ xs, H F.l = some (.lst xs) ∧ Rows H xs (G.map (·.1))
  rs : ∃ xs, H F.r = some (.lst xs) ∧ Rows H xs (G.map (·.2))
  hs : H F.h = some (.lst (hv.map V.int)) ∧ hv.length = G.length
  ns : ∃ kvs, H F.n = some (NdO P w F.n kvs) ∧ Mine.Keys H kvs ∧ EntOf G kvs
  ts : H F.t = some (.dK ts)
  ne : F.l ≠ F.r ∧ F.l ≠ F.h ∧ F.r ≠ F.h
  ht : HtOk G hv
  G : Forms G
/-- not one of the yard's own objects -/
def Off (F : Foot) (c : Addr) : Prop := c ≠ F.l ∧ c ≠ F.r ∧ c ≠ F.h ∧ c ≠ F.n ∧ c ≠ F.t
/-- all but the yard's own objects stays -/
def Gr (F : Foot) (H H' : Hp) : Prop := ∀ c o, H c = some o → Off F c → H' c = some o
theorem Gr.refl (F : Foot) (H : Hp) : Gr F H H := fun _ _ h _ => h
theorem Gr.trans {F : Foot} {H H1 H2 : Hp} (a : Gr F H H1) (b : Gr F H1 H2) : Gr F H H2 := fun c o h f => b c o (a c o h f) f
theorem Gr.of {F : Foot} {H H' : Hp} (e : Ex H H') : Gr F H H' := fun c o h _ => e c o h
section
variable {P : Program} {w : World} {K : PySem.W.Frag} {H H' : Hp} {F : Foot} {G : List Pr} {hs : List Int} {ts : List (Key × V)}
theorem YardAt.ex (Y : YardAt P w K H F G hs ts) (e : Ex H H') : YardAt P w K H' F G hs ts :=
  ⟨e _ _ Y.ins, let ⟨xs, h1, h2⟩ := Y.ls; ⟨xs, e _ _ h1, h2.ex fun c ys => e c _⟩, let ⟨xs, h1, h2⟩ := Y.rs; ⟨xs, e _ _ h1, h2.ex fun c ys => e c _⟩, ⟨e _ _ Y.hs.1, Y.hs.2⟩,
    let ⟨kvs, h1, h2, h3⟩ := Y.ns; ⟨kvs, e _ _ h1, fun x m => (h2 x m).ex fun c ys => e c _, h3⟩, e _ _ Y.ts, Y.ne, Y.ht, Y.G⟩
/-- a fresh address is off -/
theorem YardAt.fresh (Y : YardAt P w K H F G hs ts) {c : Addr} (h : H c = none) : Off F c := by
  obtain ⟨xs, hl, _⟩ := Y.ls
  obtain ⟨ys, hr, _⟩ := Y.rs
  obtain ⟨kvs, hn, _⟩ := Y.ns
  exact ⟨(ne_of_none hl h).symm, (ne_of_none hr h).symm, (ne_of_none Y.hs.1 h).symm, (ne_of_none hn h).symm, (ne_of_none Y.ts h).symm⟩
/-- a tuple is off -/
theorem YardAt.tup (Y : YardAt P w K H F G hs ts) {c : Addr} {xs : List V} (h : H c = some (.tup xs)) : Off F c := by
  obtain ⟨zs, hl, _⟩ := Y.ls
  obtain ⟨ys, hr, _⟩ := Y.rs
  obtain ⟨kvs, hn, _⟩ := Y.ns
  exact ⟨ne_of h hl (by intro z; cases z), ne_of h hr (by intro z; cases z), ne_of h Y.hs.1 (by intro z; cases z), ne_of h hn (by intro z; cases z), ne_of h Y.ts (by intro z; cases z)⟩
theorem YardAt.meth (Y : YardAt P w K H F G hs ts) {m : Str} {Z : Prop} (h1 : ¬ m = "_turned") (h2 : ¬ m = "_numbers") (h3 : ¬ m = "_heights") (h4 : ¬ m = "_rights") (h5 : ¬ m = "_lefts") (q : Z) :
    ∃ b dx fs, V.ref F.y = V.ref b ∧ H b = some (HO.ins (He.ga K "Yard") dx fs) ∧ fs.lookup m = none ∧ Z := ⟨F.y, F.dx, _, rfl, Y.ins, yfs_no F h1 h2 h3 h4 h5, q⟩
end
/-! lists of ints -/
theorem asc_ext : ∀ {a b : List Int}, a.Pairwise (· < ·) → b.Pairwise (· < ·) → (∀ k, k ∈ a ↔ k ∈ b) → a = b
  | [], [], _, _, _ => rfl
  | [], y :: b, _, _, h => absurd ((h y).mpr List.mem_cons_self) (by simp)
  | x :: a, [], _, _, h => absurd ((h x).mp List.mem_cons_self) (by simp)
  | x :: a, y :: b, ha, hb, h => by
    obtain ⟨a1, a2⟩ := List.pairwise_cons.mp ha
    obtain ⟨b1, b2⟩ := List.pairwise_cons.mp hb
    have e : x = y := by
      have h1 := (h x).mp List.mem_cons_self
      have h2 := (h y).mpr List.mem_cons_self
      rcases List.mem_cons.mp h1 with e | m1
      · exact e
      · rcases List.mem_cons.mp h2 with e | m2
        · exact e.symm
        · have := b1 x m1; have := a1 y m2; omega
    subst e
    congr 1
    refine asc_ext a2 b2 fun k => ⟨fun m => ?_, fun m => ?_⟩
    · rcases List.mem_cons.mp ((h k).mp (List.mem_cons_of_mem _ m)) with e | m'
      · subst e; exact absurd (a1 k m) (Int.lt_irrefl _)
      · exact m'
    · rcases List.mem_cons.mp ((h k).mpr (List.mem_cons_of_mem _ m)) with e | m'
      · subst e; exact absurd (b1 k m) (Int.lt_irrefl _)
      · exact m'
theorem asc_low : ∀ {l : List Int} {lo : Int} {n : Nat}, l.Pairwise (· < ·) → (∀ x ∈ l, lo ≤ x ∧ x < lo + n) → l.length ≤ n
  | [], _, _, _, _ => Nat.zero_le _
  | x :: l, lo, n, h, b => by
    obtain ⟨h1, h2⟩ := List.pairwise_cons.mp h
    have bx := b x List.mem_cons_self
    have z := asc_low (l := l) (lo := x + 1) (n := (lo + n - (x + 1)).toNat) h2 fun y m => by
      have := h1 y m
      have := b y (List.mem_cons_of_mem _ m)
      omega
    rw [List.length_cons]
    omega
theorem Asc.len {n : Nat} {l : List Int} (h : Asc n l) : l.length ≤ n := asc_low (lo := 0) h.1 fun x m => by have := h.2 x m; omega
theorem Asc.up {n m : Nat} {l : List Int} (h : Asc n l) (le : n ≤ m) : Asc m l := ⟨h.1, fun x i => by have := h.2 x i; omega⟩
/-- a form is kept: there already, or the new last one -/
def Put (G : List Pr) (p : Pr) (i : Int) (G' : List Pr) : Prop := (∃ k : Nat, i = k ∧ G[k]? = some p ∧ G' = G) ∨ (p ∉ G ∧ i = G.length ∧ G' = G ++ [p])
theorem Put.get {G G' : List Pr} {p : Pr} {i : Int} (h : Put G p i G') : ∃ k : Nat, i = k ∧ G'[k]? = some p := by
  rcases h with ⟨k, e, h, rfl⟩ | ⟨_, e, rfl⟩
  · exact ⟨k, e, h⟩
  · exact ⟨G.length, e, by rw [List.getElem?_append_right (Nat.le_refl _), Nat.sub_self]; rfl⟩
theorem nodup_at {α : Type} {l : List α} (n : l.Nodup) {i j : Nat} {a : α} (h : l[i]? = some a) (h' : l[j]? = some a) : i = j := by
  obtain ⟨l1, e1⟩ := List.getElem?_eq_some_iff.mp h
  obtain ⟨l2, e2⟩ := List.getElem?_eq_some_iff.mp h'
  have pw := List.pairwise_iff_getElem.mp (show l.Pairwise (· ≠ ·) from n)
  rcases Nat.lt_trichotomy i j with c | c | c
  · exact absurd (e1.trans e2.symm) (pw i j l1 l2 c)
  · exact c
  · exact absurd (e2.trans e1.symm) (pw j i l2 l1 c)
theorem Put.one {G G1 G2 : List Pr} {p : Pr} {i j : Int} (n : G.Nodup) (h : Put G p i G1) (h' : Put G p j G2) : i = j ∧ G1 = G2 := by
  rcases h with ⟨k, rfl, h, rfl⟩ | ⟨h1, rfl, rfl⟩
  · rcases h' with ⟨k', rfl, h', rfl⟩ | ⟨h1', _, _⟩
    · exact ⟨by rw [nodup_at n h h'], rfl⟩
    · exact absurd (List.mem_of_getElem? h) h1'
  · rcases h' with ⟨k', rfl, h', rfl⟩ | ⟨_, rfl, rfl⟩
    · exact absurd (List.mem_of_getElem? h') h1
    · exact ⟨rfl, rfl⟩
theorem Forms.put {G G' : List Pr} {p : Pr} {i : Int} (f : Forms G) (h : Put G p i G') (a : Asc G.length p.1) (b : Asc G.length p.2) : Forms G' := by
  rcases h with ⟨k, _, _, rfl⟩ | ⟨n, _, rfl⟩
  · exact f
  · refine ⟨?_, ?_, fun j g e => ?_⟩
    · have := (List.getElem?_eq_some_iff.mp f.zero).1
      rw [List.getElem?_append_left this]; exact f.zero
    · rw [List.nodup_append]
      refine ⟨f.one, by simp, fun x hx y hy e => ?_⟩
      rw [List.mem_singleton] at hy
      subst hy; subst e
      exact n hx
    · by_cases hj : j < G.length
      · rw [List.getElem?_append_left hj] at e; exact f.asc j g e
      · have hj2 : j = G.length := by
          have := (List.getElem?_eq_some_iff.mp e).1
          rw [List.length_append, List.length_singleton] at this
          omega
        subst hj2
        rw [List.getElem?_append_right (Nat.le_refl _), Nat.sub_self] at e
        injection e with e
        subst e
        exact ⟨a, b⟩
theorem Put.len {G G' : List Pr} {p : Pr} {i : Int} (h : Put G p i G') : G.length ≤ G'.length ∧ G'.length ≤ G.length + 1 ∧ 0 ≤ i ∧ i < G'.length := by
  rcases h with ⟨k, rfl, h, rfl⟩ | ⟨_, rfl, rfl⟩
  · have := (List.getElem?_eq_some_iff.mp h).1
    exact ⟨Nat.le_refl _, Nat.le_succ _, by omega, by omega⟩
  · rw [List.length_append, List.length_singleton]
    exact ⟨by omega, by omega, by omega, by omega⟩
theorem EntOf.look {G : List Pr} {kvs : List Ent} (e : EntOf G kvs) (n : G.Nodup) {p : Pr} : (p ∉ G → Mine.look kvs p = none) ∧ ∀ k : Nat, G[k]? = some p → Mine.look kvs p = some (k : Int) := by
  have mem : ∀ x ∈ kvs, ∃ i : Nat, G[i]? = some x.1 ∧ x.2.2 = (i : Int) := fun x m => by
    obtain ⟨i, hi, e1⟩ := List.mem_iff_getElem.mp m
    have lt : i < G.length := by rw [← e.1]; exact hi
    obtain ⟨b, e2⟩ := e.2 i G[i] (List.getElem?_eq_getElem lt)
    have e3 : kvs[i]? = some x := by rw [List.getElem?_eq_getElem hi, e1]
    rw [e3] at e2
    injection e2 with e2
    subst e2
    exact ⟨i, List.getElem?_eq_getElem lt, rfl⟩
  constructor
  · intro h
    unfold Mine.look
    rw [List.find?_eq_none.mpr]
    · rfl
    · intro x m z
      have z := of_decide_eq_true z
      obtain ⟨i, h1, _⟩ := mem x m
      exact h (z ▸ List.mem_of_getElem? h1)
  · intro k hk
    unfold Mine.look
    cases q : kvs.find? (fun e => decide (e.1 = p)) with
    | none =>
      obtain ⟨b, e2⟩ := e.2 k p hk
      have := List.find?_eq_none.mp q _ (List.mem_of_getElem? e2)
      simp at this
    | some x =>
      have h1 := List.find?_some q
      have h1 : x.1 = p := of_decide_eq_true h1
      obtain ⟨i, h2, h3⟩ := mem x (List.mem_of_find?_eq_some q)
      rw [h1] at h2
      have : i = k := nodup_at n h2 hk
      subst this
      show some x.2.2 = _
      rw [h3]
theorem EntOf.snoc {G : List Pr} {kvs : List Ent} (e : EntOf G kvs) (p : Pr) (b : Addr) : EntOf (G ++ [p]) (kvs ++ [(p, b, (G.length : Int))]) := by
  refine ⟨by rw [List.length_append, List.length_append, e.1]; rfl, fun i g h => ?_⟩
  by_cases hi : i < G.length
  · rw [List.getElem?_append_left hi] at h
    obtain ⟨c, h1⟩ := e.2 i g h
    exact ⟨c, by rw [List.getElem?_append_left (by rw [e.1]; exact hi)]; exact h1⟩
  · have hi2 : i = G.length := by
      have := (List.getElem?_eq_some_iff.mp h).1
      rw [List.length_append, List.length_singleton] at this
      omega
    subst hi2
    rw [List.getElem?_append_right (Nat.le_refl _), Nat.sub_self] at h
    injection h with h
    subst h
    exact ⟨b, by rw [← e.1, List.getElem?_append_right (Nat.le_refl _), Nat.sub_self]; rfl⟩
theorem hat_left {hs : List Int} {x k : Int} (h0 : 0 ≤ k) (h1 : k < hs.length) : hat (hs ++ [x]) k = hat hs k := by
  unfold hat
  rw [List.getD_eq_getElem?_getD, List.getElem?_append_left (by omega), ← List.getD_eq_getElem?_getD]
theorem hat_new (hs : List Int) (x : Int) : hat (hs ++ [x]) (hs.length : Nat) = x := by
  unfold hat
  rw [List.getD_eq_getElem?_getD, Int.toNat_natCast, List.getElem?_append_right (Nat.le_refl _), Nat.sub_self]
  rfl
theorem hats_left {hs : List Int} {x : Int} {n : Nat} {l : List Int} (a : ∀ k ∈ l, 0 ≤ k ∧ k < (n : Int)) (le : n ≤ hs.length) : l.map (hat (hs ++ [x])) = l.map (hat hs) := by
  refine List.map_congr_left fun k m => ?_
  have := a k m
  exact hat_left this.1 (by omega)
theorem Asc.both {n : Nat} {g : Pr} (a : Asc n g.1) (b : Asc n g.2) : ∀ k ∈ g.1 ++ g.2, 0 ≤ k ∧ k < (n : Int) := fun k m => by
  rcases List.mem_append.mp m with h | h
  · exact a.2 k h
  · exact b.2 k h
theorem HtOk.snoc {G : List Pr} {hs : List Int} (o : HtOk G hs) (l : hs.length = G.length) (f : Forms G) {p : Pr} (a : Asc G.length p.1) (b : Asc G.length p.2) {h : Int} (n : IsHt hs p h) : HtOk (G ++ [p]) (hs ++ [h]) := by
  intro i g e
  by_cases hi : i < G.length
  · rw [List.getElem?_append_left hi] at e
    obtain ⟨a1, a2⟩ := f.asc i g e
    rw [hat_left (by omega) (by omega)]
    unfold IsHt
    rw [hats_left (Asc.both a1 a2) (by omega)]
    exact o i g e
  · have hi2 : i = G.length := by
      have := (List.getElem?_eq_some_iff.mp e).1
      rw [List.length_append, List.length_singleton] at this
      omega
    subst hi2
    rw [List.getElem?_append_right (Nat.le_refl _), Nat.sub_self] at e
    injection e with e
    subst e
    rw [← l, hat_new]
    unfold IsHt
    rw [hats_left (Asc.both a b) (by omega)]
    exact n
/-- the height of a new game -/
def Hgt (G : List Pr) (hs : List Int) (p : Pr) (G' : List Pr) (hs' : List Int) : Prop := (p ∈ G ∧ hs' = hs) ∨ (p ∉ G ∧ ∃ m, hs' = hs ++ [1 + m] ∧ m ∈ (p.1 ++ p.2).map (hat hs) ∧ ∀ y ∈ (p.1 ++ p.2).map (hat hs), y ≤ m)
end Mine
namespace Mine
open PySem PySem.Spec PyProof.Rows L2
/-! sorted(a set of ints), up to a thousand of them -/
theorem raw_iv (v : Value) (h : ∃ k tk, v = Value.int k tk) : Builtin.Re.reRawOf v = SrtO.iv v := by
  obtain ⟨k, tk, rfl⟩ := h; rfl
section
variable {P : Program} {w : World} {A : Around} {E : Value → Shared → Prop} {s : Shared}
set_option maxHeartbeats 1600000 in
theorem set_in_order {a : Addr} {S : Int → Bool} {n : Nat} {Q : Value → Shared → Prop} (r : SetR w s.heap a S n) (calm : A.handled = none) (few : n ≤ 1000)
    (q : ∀ (s' : Shared) (p : Addr) (out : Array Value) (c : Nat) (ns : List Int), (∀ b o, s.heap.get? b = some o → s'.heap.get? b = some o) → s'.gens = s.gens → s'.os = s.os → s.heap.objs.size ≤ p →
      s'.heap.get? p = some (seqObj "list" out c) → IntsAre out.toList ns → ns.Pairwise (· < ·) → (∀ k, k ∈ ns ↔ S k = true) → ns.length = n → Q (.ref p) s') :
    wpAny (model P w) A (call (.builtin "sorted") [.ref a]) Q E s := by
  obtain ⟨o, es, ep, t, ho, hex, hd, g, one, mem, hb, hf, cnt, ris, led⟩ := r
  refine Calls.call_function_entry kind_sorted plain_sorted entry_sorted (args_sorted1 _) ?_
  unfold Builtin.«sorted»
  refine wpAny_bind (m := checkCount "sorted" 1 1 _) (wpAny_pure ?_)
  refine wpAny_bind (collect_set (A := A.in1) calm ⟨o, ho, hex.1, hd⟩ hf hb ris led fun s1 vs old hz gens1 os1 pm => ?_)
  have many : vs.length = n := by rw [pm.length_eq, List.length_map, Array.length_toList]; exact cnt
  have isI : ∀ v ∈ vs, ∃ k tk, v = Value.int k tk := fun v hv => by
    obtain ⟨e, he, z⟩ := List.mem_map.mp (pm.mem_iff.mp hv)
    obtain ⟨k, tk, h1, _⟩ := g e he
    exact ⟨k, tk, by rw [← z]; exact h1⟩
  have isL := SrtO.ints_iv isI
  have keys : (vs.map SrtO.iv).Perm (es.toList.map L2.keyOf) := by
    have z := pm.map Builtin.Re.reRawOf
    rw [List.map_map] at z
    have e : vs.map Builtin.Re.reRawOf = vs.map SrtO.iv := List.map_congr_left fun v hv => raw_iv v (isI v hv)
    rw [e] at z
    exact z
  have line : vs.length ≤ sizeLine := by rw [many]; exact Nat.le_trans few (by decide)
  refine wpAny_bind (wpAny_newList ?_ line)
  have at_l : (s1.heap.push (seqObj "list" vs.toArray 0)).get? s1.heap.objs.size = some (seqObj "list" vs.toArray 0) := Heap.get?_push_size _ rfl
  refine wpAny_bind (wpAny_holding (wpAny_call_entry slot_list_sort ⟨_, at_l, rfl⟩ entry_list_sort (SrtO.list_sort_ord SrtO.swo_int at_l line (fun h2 => SrtO.ints_sortable isL h2) fun out h1 h2 => ⟨_, rfl, ?_⟩) (args_list_sort _)))
  obtain ⟨k1, k2, k3⟩ := SrtO.ints_out isL h1 h2
  obtain ⟨c, hc⟩ := sortedHeap_at (vs := vs) (out := out.toArray) at_l
  have pn := k2.trans keys
  refine wpAny_pure ⟨_, rfl, q _ s1.heap.objs.size out.toArray c (out.map SrtO.iv) (fun b u e => ?_) gens1 os1 hz hc k1 (lt_of_le_nodup _ k3 (pn.nodup_iff.mpr one)) (fun k => by rw [pn.mem_iff, ← mem k]) ?_⟩
  · have z := old b u e
    have lt := Heap.lt_size z
    show (sortedHeap (s1.heap.push (seqObj "list" vs.toArray 0)) s1.heap.objs.size vs out.toArray).get? b = some u
    rw [sortedHeap_old (Nat.ne_of_lt lt) (by rw [size_push']; exact Nat.lt_succ_of_lt lt)]
    exact Heap.get?_push_of_some _ z
  · rw [pn.length_eq, List.length_map, Array.length_toList]; exact cnt
end
def rSortX (w : World) : List V → Hp → VK → Prop := fun vs H Q => ∃ (a : Addr) (S : Int → Bool) (n : Nat), vs = [V.ref a] ∧ H a = some (SetO w a S n) ∧ n ≤ 1000 ∧
  ∀ (ns : List Int) (p : Addr), ns.Pairwise (· < ·) → (∀ k : Int, k ∈ ns ↔ S k = true) → ns.length = n → H p = none → Q (.ref p) (upd H p (.lst (ns.map V.int)))
theorem cr_sortX {X : Cx} (hc : X.calm = true) : CallR X (.builtin "sorted") (rSortX X.w) := by
  intro pins s σ H vs us Q I r h
  obtain ⟨a, S, n, rfl, ha, few, q⟩ := h
  rw [Vals.ref1 r]
  refine set_in_order (setO_get I ha) (I.ok.hd hc) few fun s' p out c ns k g o hp hg hi hs hm hl => ?_
  have line : (ns.map V.int).length ≤ sizeLine := by rw [List.length_map, hl]; exact Nat.le_trans few (by decide)
  have np : H p = none := I.hok.fresh hp
  have J : Inv X pins σ (upd H p (.lst (ns.map V.int))) { s with heap := s'.heap, gens := s'.gens, drawn := s'.drawn, toks := s'.toks } :=
    I.call (ch := []) (Un.laid k hp np) (I.hok.laid k hp ⟨line, out.toList, c, vals_of_ints hi, hg⟩) (by rw [g]; exact I.bare) (fun _ z => nomatch z)
  have e : s' = { s with heap := s'.heap, gens := s'.gens, drawn := s'.drawn, toks := s'.toks } := by
    cases s'; cases s; cases o; rfl
  rw [e]
  exact ⟨.ref p, _, J, rfl, q ns p hs hm hl np⟩
end Mine
namespace Mine
open PySem PySem.Spec PyProof.Rows L2
open Evl (Ex)
theorem hu9 {A : Around} {k : Nat} (hr : Room k A) : A.units + 9 < cLine := by have := hr.units; omega
/-! comprehensions whose items are known -/
/-- what a comprehension asks behind its source -/
def lcR (g : TG) (tt : TT) (te : TE) (vs : List Nat) (σ : L2.St) (Q : VK) : It → Hp → Prop := fun J H1 => ∀ D, H1 D = none → ∃ W : Nat → Nat → Hp → Prop, (∃ m, W 0 m (upd H1 D (.lst []))) ∧ ∀ i m H, W i m H →
  (J.stop i H ∧ Q (.ref D) H) ∨ (J.go i H ∧ ∃ Nx : Hp → Prop, (∀ H', Nx H' → ∃ m', m' < m ∧ W (i + 1) m' H') ∧ ∀ x H', J.yld i H x H' → g x (wipe σ vs) H' fun σ2 H2 => wipe σ2 vs = wipe σ vs ∧ tt σ2 H2 fun b H3 =>
    if b = true then te σ2 H3 fun y H4 => ∃ acc, H4 D = some (.lst acc) ∧ acc.length < sizeLine ∧ Nx (upd H4 D (.lst (acc ++ [y]))) else Nx H3)
/-- one turn gives the item o (none: it is left out) -/
def turnR (g : TG) (tt : TT) (te : TE) (vs : List Nat) (σ : L2.St) (x : V) (o : Option V) (H1 : Hp) : Prop := ∀ H', Ex H1 H' → ∀ R : Option V → Hp → Prop, (∀ H'', Ex H' H'' → R o H'') →
  g x (wipe σ vs) H' fun σ2 H2 => wipe σ2 vs = wipe σ vs ∧ tt σ2 H2 fun b H3 => if b = true then te σ2 H3 fun y H4 => R (some y) H4 else R none H3
/-- the way a reading passes a weaker wish on -/
structure MonoLc (g : TG) (tt : TT) (te : TE) (vs : List Nat) (σ : L2.St) : Prop where
  up : ∀ (x : V) (H' : Hp) (R R' : Option V → Hp → Prop), (∀ o H, R o H → R' o H) → (g x (wipe σ vs) H' fun σ2 H2 => wipe σ2 vs = wipe σ vs ∧ tt σ2 H2 fun b H3 => if b = true then te σ2 H3 fun y H4 => R (some y) H4 else R none H3) →
    g x (wipe σ vs) H' fun σ2 H2 => wipe σ2 vs = wipe σ vs ∧ tt σ2 H2 fun b H3 => if b = true then te σ2 H3 fun y H4 => R' (some y) H4 else R' none H3
section
variable {g : TG} {tt : TT} {te : TE} {vs : List Nat} {σ : L2.St} {Q : VK} {H1 : Hp} {K : PySem.W.Frag} {wi : TI}
theorem k_lc {H : Hp} (q : wi σ H (lcR g tt te vs σ Q)) : tLc wi g tt te vs σ H Q := q
theorem turn_in {x : V} {o : Option V} {D : Addr} {acc : List V} {H : Hp} {Nx : Hp → Prop} (t : turnR g tt te vs σ x o H1) (e : Ex H1 H) (hD : H1 D = none) (a : H D = some (.lst acc)) (len : acc.length < sizeLine)
    (nx : ∀ H', Ex H1 H' → H' D = some (.lst (acc ++ o.toList)) → Nx H') :
    g x (wipe σ vs) H fun σ2 H2 => wipe σ2 vs = wipe σ vs ∧ tt σ2 H2 fun b H3 => if b = true then te σ2 H3 fun y H4 => ∃ acc, H4 D = some (.lst acc) ∧ acc.length < sizeLine ∧ Nx (upd H4 D (.lst (acc ++ [y]))) else Nx H3 := by
  refine t H e (fun o' H4 => match o' with | some y => ∃ acc, H4 D = some (.lst acc) ∧ acc.length < sizeLine ∧ Nx (upd H4 D (.lst (acc ++ [y]))) | none => Nx H4) fun H'' e2 => ?_
  cases o with
  | none => exact nx H'' (e.trans e2) (by rw [e2 _ _ a]; simp)
  | some y => exact ⟨acc, e2 _ _ a, len, nx _ (Evl.Ex.mut (e.trans e2) hD) upd_same⟩
theorem lcR_list {a : Addr} {xs : List V} (f : V → Option V) (hS : SqL K H1 a xs) (len : xs.length < sizeLine) (t : ∀ x ∈ xs, turnR g tt te vs σ x (f x) H1)
    (q : ∀ D H', H1 D = none → Ex H1 H' → H' D = some (.lst (xs.filterMap f)) → Q (.ref D) H') : lcR g tt te vs σ Q (Itl K a) H1 := by
  intro D hD
  refine lc_list (K := K) (a := a) (xs := xs) (fun i H => Ex H1 H ∧ H D = some (.lst ((xs.take i).filterMap f))) ⟨Evl.Ex.new hD, upd_same⟩ (fun i H _ p => Evl.ex_l p.1 hS) (fun i x H hx p => ?_) (fun H p => ?_)
  · refine turn_in (t x (List.mem_of_getElem? hx)) p.1 hD p.2 ?_ fun H' e h' => ⟨e, ?_⟩
    · refine Nat.lt_of_le_of_lt (Nat.le_trans (List.length_filterMap_le _ _) ?_) len
      rw [List.length_take]; omega
    · rw [h', List.take_add_one, hx, List.filterMap_append]
      cases h : f x <;> simp [h]
  · refine q D H hD p.1 ?_
    rw [p.2, List.take_of_length_le (Nat.le_refl _)]
theorem lcR_tup {a : Addr} {xs : List V} (f : V → Option V) (hS : SqT K H1 a xs) (len : xs.length < sizeLine) (t : ∀ x ∈ xs, turnR g tt te vs σ x (f x) H1)
    (q : ∀ D H', H1 D = none → Ex H1 H' → H' D = some (.lst (xs.filterMap f)) → Q (.ref D) H') : lcR g tt te vs σ Q (Itt K a) H1 := by
  intro D hD
  refine lc_tup (K := K) (a := a) (xs := xs) (fun i H => Ex H1 H ∧ H D = some (.lst ((xs.take i).filterMap f))) ⟨Evl.Ex.new hD, upd_same⟩ (fun i H _ p => Evl.ex_t p.1 hS) (fun i x H hx p => ?_) (fun H p => ?_)
  · refine turn_in (t x (List.mem_of_getElem? hx)) p.1 hD p.2 ?_ fun H' e h' => ⟨e, ?_⟩
    · refine Nat.lt_of_le_of_lt (Nat.le_trans (List.length_filterMap_le _ _) ?_) len
      rw [List.length_take]; omega
    · rw [h', List.take_add_one, hx, List.filterMap_append]
      cases h : f x <;> simp [h]
  · refine q D H hD p.1 ?_
    rw [p.2, List.take_of_length_le (Nat.le_refl _)]
theorem lcR_rng {n : Nat} (f : Nat → Option V) (len : n < sizeLine) (t : ∀ i, i < n → turnR g tt te vs σ (.int (i : Int)) (f i) H1)
    (q : ∀ D H', H1 D = none → Ex H1 H' → H' D = some (.lst ((List.range n).filterMap f)) → Q (.ref D) H') : lcR g tt te vs σ Q (Itr 0 n) H1 := by
  intro D hD
  refine lc_range (lo := 0) (n := n) (fun i H => Ex H1 H ∧ H D = some (.lst ((List.range i).filterMap f))) ⟨Evl.Ex.new hD, upd_same⟩ (fun i H hi p => ?_) (fun H p => q D H hD p.1 p.2)
  have e0 : (0 : Int) + (i : Int) = (i : Int) := Int.zero_add _
  rw [e0]
  refine turn_in (t i hi) p.1 hD p.2 ?_ fun H' e h' => ⟨e, ?_⟩
  · refine Nat.lt_of_le_of_lt (Nat.le_trans (List.length_filterMap_le _ _) ?_) (Nat.lt_trans hi len)
    rw [List.length_range]; exact Nat.le_refl i
  · rw [h', List.range_succ, List.filterMap_append]
    cases h : f i <;> simp [h]
/-- a turn of x where the item is plain -/
theorem turn_map {i : Nat} {x y : V} (h : ∀ H', Ex H1 H' → ∀ R : VK, R y H' → te ((wipe σ [i]).set i (some x)) H' R) (w : wipe ((wipe σ [i]).set i (some x)) [i] = wipe σ [i] := by rfl) : turnR (gName i) tYes te [i] σ x (some y) H1 :=
  fun H' e R r => ⟨w, h H' e (fun y H4 => R (some y) H4) (r H' (Evl.Ex.refl _))⟩
end
section
variable {X : Cx}
/-- tuple(xs), xs a list -/
def rTupL (K : PySem.W.Frag) : List V → Hp → VK → Prop := fun vs H Q => ∃ p ys, vs = [V.ref p] ∧ SqL K H p ys ∧ ∀ l, H l = none → Q (.ref l) (upd H l (.tup ys))
theorem cr_tupL : CallR X (.type "tuple") (rTupL X.K) := fun pins s σ H xs us Q I r h =>
  let ⟨p, ys, e, h1, q⟩ := h
  call_tuple_of pins s σ H xs us Q I r ⟨p, ys, e, Or.inl ⟨h1, q⟩⟩
end
section
variable {H : Hp} {Q : VK} {K : PySem.W.Frag}
theorem k_tsl {r : V → Option Int → Option Int → Hp → VK → Prop} {σ : L2.St} {te : TE} {tl th : TO} (q : te σ H fun x H1 => tl σ H1 fun l H2 => th σ H2 fun u H3 => r x l u H3 Q) : L2.tSl r te tl th σ H Q := q
theorem k_part {σ : L2.St} {t : TE} {R : Option Int → Hp → Prop} (q : t σ H fun x H1 => ∃ i, x = .int i ∧ R (some i) H1) : tPart t σ H R := q
theorem k_nopart {σ : L2.St} {R : Option Int → Hp → Prop} (q : R none H) : tNoPart σ H R := q
theorem k_exi {R : Int → Prop} {j : Int} (q : R j) : ∃ i, V.int j = V.int i ∧ R i := ⟨j, rfl, q⟩
theorem k_slL {a : Addr} {xs : List V} {lo hi : Option Int} (h : SqL K H a xs) (q : ∀ p, H p = none → Q (.ref p) (upd H p (.lst (cutV xs lo hi)))) : rSlL K (.ref a) lo hi H Q := ⟨a, xs, rfl, h, q⟩
theorem k_sfl {σ : L2.St} {D : Ends} {ta tv : TE} {f : Str} (q : tv σ H fun y H1 => ta σ H1 fun x H2 => ∃ a C dx fs, x = .ref a ∧ H2 a = some (.ins C dx fs) ∧ Cls K C ∧ NoAttr K C f ∧ fs.length < 1000 ∧ D.nx σ (upd H2 a (.ins C dx (putF f y fs)))) : sFld K ta tv f D σ H := q
theorem k_nnot {P : Program} {w : World} {σ : L2.St} {ty td : TE} (q : ty σ H fun y H1 => td σ H1 fun x H2 => ∃ a b kvs p, x = V.ref a ∧ y = V.ref b ∧ H2 a = some (NdO P w a kvs) ∧ Mine.Keys H2 kvs ∧ PrT H2 b p ∧ Q (.bl (!(look kvs p).isSome)) H2) : tNNot P w ty td σ H Q := q
theorem k_nget {P : Program} {w : World} {σ : L2.St} {ty td : TE} (q : td σ H fun x H1 => ty σ H1 fun y H2 => ∃ a b kvs p v, x = V.ref a ∧ y = V.ref b ∧ H2 a = some (NdO P w a kvs) ∧ Mine.Keys H2 kvs ∧ PrT H2 b p ∧ look kvs p = some v ∧ Q (.int v) H2) : tNGet P w td ty σ H Q := q
theorem k_nput {P : Program} {w : World} {σ : L2.St} {D : Ends} {ty td tv : TE} (q : tv σ H fun z H1 => td σ H1 fun x H2 => ty σ H2 fun y H3 => ∃ a b kvs p v, z = V.int v ∧ x = V.ref a ∧ y = V.ref b ∧ H3 a = some (NdO P w a kvs) ∧ Mine.Keys H3 kvs ∧ PrT H3 b p ∧ look kvs p = none ∧
  kvs.length < sizeLine ∧ D.nx σ (upd H3 a (NdO P w a (kvs ++ [(p, b, v)])))) : sNPut P w td ty tv D σ H := q
theorem k_dget {σ : L2.St} {ty td : TE} (q : td σ H fun x H1 => ty σ H1 fun y H2 => ∃ a v, x = V.ref a ∧ DGet H2 a y (some v) ∧ Q v H2) : tDGet td ty σ H Q := q
theorem k_din {σ : L2.St} {ty td : TE} (q : ty σ H fun y H1 => td σ H1 fun x H2 => ∃ a o, x = V.ref a ∧ DGet H2 a y o ∧ Q (.bl o.isSome) H2) : tDIn ty td σ H Q := q
theorem k_dnotin {σ : L2.St} {ty td : TE} (q : ty σ H fun y H1 => td σ H1 fun x H2 => ∃ a o, x = V.ref a ∧ DGet H2 a y o ∧ Q (.bl (!o.isSome)) H2) : tDNotIn ty td σ H Q := q
theorem k_dput {σ : L2.St} {D : Ends} {ty td tv : TE} (q : tv σ H fun v H1 => td σ H1 fun x H2 => ty σ H2 fun y H3 => ∃ a H4, x = V.ref a ∧ DPut H3 a y v H4 ∧ D.nx σ H4) : sDPut td ty tv D σ H := q
theorem k_rCatA {a b : Addr} {xs ys : List V} (h1 : SqT K H a xs) (h2 : SqT K H b ys) (l : xs.length + ys.length ≤ sizeLine) (q : ∀ p H', Ex H H' → SqT K H' p (xs ++ ys) → Q (.ref p) H') : rCatA K (.ref a) (.ref b) H Q :=
  ⟨a, b, xs, ys, rfl, rfl, h1, h2, l, fun e => q b H (Evl.Ex.refl H) (by rw [e]; exact h2), fun _ e => q a H (Evl.Ex.refl H) (by rw [e, List.append_nil]; exact h1), fun _ _ p n => q p _ (Evl.Ex.new n) (k_st upd_same)⟩
/-- what an item of ints is made into -/
def onI (f : Int → Int) : V → Option V := fun v => match v with | .int k => some (.int (f k)) | _ => none
theorem onI_map (f : Int → Int) (ns : List Int) : (ns.map V.int).filterMap (onI f) = (ns.map f).map V.int := by
  induction ns with
  | nil => rfl
  | cons x xs ih =>
    have e : onI f (V.int x) = some (V.int (f x)) := rfl
    rw [List.map_cons, List.filterMap_cons, e, ih]
    rfl
theorem hat_at {hs : List Int} {k : Int} {n : Nat} (l : hs.length = n) (h0 : 0 ≤ k) (h1 : k < n) : atI (hs.map V.int) k = some (V.int (hat hs k)) := by
  obtain ⟨z, hz, e⟩ := at_int (ns := hs) h0 (by omega)
  rw [e]
  unfold hat
  rw [List.getD_eq_getElem?_getD, hz]
  rfl
theorem k_rTupL {p : Addr} {ys : List V} (h : SqL K H p ys) (q : ∀ l, H l = none → Q (.ref l) (upd H l (.tup ys))) : rTupL K [.ref p] H Q := ⟨p, ys, rfl, h, q⟩
theorem k_rListL {p : Addr} {ys : List V} (h : SqL K H p ys) (q : ∀ l, H l = none → Q (.ref l) (upd H l (.lst ys))) : rListQ K [.ref p] H Q := ⟨p, ys, rfl, Or.inl h, q⟩
theorem k_rListT {p : Addr} {ys : List V} (h : SqT K H p ys) (q : ∀ l, H l = none → Q (.ref l) (upd H l (.lst ys))) : rListQ K [.ref p] H Q := ⟨p, ys, rfl, Or.inr h, q⟩
theorem k_rSetL {w : World} {p : Addr} {ns : List Int} (h : SqL K H p (ns.map V.int)) (b : ns.length ≤ 1000) (q : ∀ (p : Addr) (c : Nat), H p = none → c ≤ ns.length → Q (.ref p) (upd H p (SetO w p (fun j => decide (j ∈ ns)) c))) : rSetL K w [.ref p] H Q :=
  ⟨p, ns, rfl, h, Nat.lt_of_le_of_lt (Nat.succ_le_succ b) (by decide), q⟩
theorem k_rSorted {w : World} {a : Addr} {S : Int → Bool} {n : Nat} (h : H a = some (SetO w a S n)) (l : n ≤ 1000) (q : ∀ (ns : List Int) (p : Addr), ns.Pairwise (· < ·) → (∀ k : Int, k ∈ ns ↔ S k = true) → ns.length = n → H p = none → Q (.ref p) (upd H p (.lst (ns.map V.int)))) :
    rSortX w [.ref a] H Q := ⟨a, S, n, rfl, h, l, q⟩
theorem inV_ints (x : Int) : ∀ ns : List Int, inV (V.int x) (ns.map V.int) = decide (x ∈ ns)
  | [] => rfl
  | y :: ys => by
    show (eqV (V.int y) (V.int x) || inV (V.int x) (ys.map V.int)) = _
    rw [inV_ints x ys]
    have e1 : eqV (V.int y) (V.int x) = decide (x = y) := by
      by_cases h1 : x = y
      · subst h1; simp [eqV]
      · simp [eqV, h1, Ne.symm h1]
    rw [e1]
    by_cases h1 : x = y <;> simp [h1]
theorem k_in {neg : Bool} {x : Int} {p : Addr} {ns : List Int} (h : SqL K H p (ns.map V.int)) (q : Q (.bl (if neg then !decide (x ∈ ns) else decide (x ∈ ns))) H) : rIn K neg (.int x) (.ref p) H Q := by
  have f : (ns.map V.int).all flatV = true := by simp [flatV]
  exact ⟨p, _, rfl, Or.inl h, rfl, f, by rw [inV_ints]; exact q⟩
theorem k_rMaxL {a : Addr} {ns : List Int} (h : SqL K H a (ns.map V.int)) (l : 0 < ns.length) (q : ∀ m, m ∈ ns → (∀ y, y ∈ ns → y ≤ m) → Q (.int m) H) : rMax K [.ref a] H Q := ⟨a, ns, rfl, h, l, q⟩
theorem k_rCat {a b : Addr} {xs ys : List V} (h1 : H a = some (.lst xs)) (h2 : H b = some (.lst ys)) (l : xs.length + ys.length ≤ sizeLine) (q : ∀ p, H p = none → Q (.ref p) (upd H p (.lst (xs ++ ys)))) : rCat (.ref a) (.ref b) H Q := ⟨a, b, xs, ys, rfl, rfl, h1, h2, l, q⟩
end
end Mine
namespace Mine
open PySem PySem.Spec PyProof.Rows L2
open Evl (Ex)
/-! a law's own list of forms: refs to pairs of lists of ints -/
/-- all but the addresses of Z stays -/
def Keep (Z : Addr → Prop) (H H' : Hp) : Prop := ∀ c o, H c = some o → ¬ Z c → H' c = some o
theorem Keep.of {Z : Addr → Prop} {H H' : Hp} (e : Ex H H') : Keep Z H H' := fun c o h _ => e c o h
theorem Keep.trans {Z : Addr → Prop} {H H1 H2 : Hp} (a : Keep Z H H1) (b : Keep Z H1 H2) : Keep Z H H2 := fun c o h n => b c o (a c o h n) n
def FormAt (Z : Addr → Prop) (H : Hp) (a : Addr) (g : Pr) : Prop := ∃ c d, H a = some (.tup [.ref c, .ref d]) ∧ H c = some (.lst (g.1.map V.int)) ∧ H d = some (.lst (g.2.map V.int)) ∧ ¬ Z c ∧ ¬ Z d
def FormsAt (Z : Addr → Prop) (H : Hp) (xs : List V) (G : List Pr) : Prop := xs.length = G.length ∧ ∀ (i : Nat) (g : Pr), G[i]? = some g → ∃ a, xs[i]? = some (.ref a) ∧ FormAt Z H a g
def ModAt (Z : Addr → Prop) (H : Hp) (m : Addr) (G : List Pr) : Prop := ∃ xs, H m = some (.lst xs) ∧ FormsAt Z H xs G
theorem FormAt.keep {Z : Addr → Prop} {H H' : Hp} {a : Addr} {g : Pr} (f : FormAt Z H a g) (k : Keep Z H H') (t : ∀ c ys, H c = some (.tup ys) → H' c = some (.tup ys)) : FormAt Z H' a g :=
  let ⟨c, d, h1, h2, h3, z1, z2⟩ := f
  ⟨c, d, t _ _ h1, k _ _ h2 z1, k _ _ h3 z2, z1, z2⟩
theorem FormsAt.keep {Z : Addr → Prop} {H H' : Hp} {xs : List V} {G : List Pr} (f : FormsAt Z H xs G) (k : Keep Z H H') (t : ∀ c ys, H c = some (.tup ys) → H' c = some (.tup ys)) : FormsAt Z H' xs G :=
  ⟨f.1, fun i g h => let ⟨a, h1, h2⟩ := f.2 i g h; ⟨a, h1, h2.keep k t⟩⟩
theorem FormsAt.ex {Z : Addr → Prop} {H H' : Hp} {xs : List V} {G : List Pr} (f : FormsAt Z H xs G) (e : Ex H H') : FormsAt Z H' xs G := f.keep (Keep.of e) fun c ys h => e _ _ h
theorem ModAt.up {Z : Addr → Prop} {H H' : Hp} {m : Addr} {G : List Pr} (f : ModAt Z H m G) (e : Ex H H') : ModAt Z H' m G := let ⟨xs, h1, h2⟩ := f; ⟨xs, e _ _ h1, h2.ex e⟩
/-- data of a form -/
def formD (g : Pr) : PyData := .tuple [.list (g.1.map .int), .list (g.2.map .int)]
theorem dp_ints {K : PySem.W.Frag} {H : Hp} : ∀ ns : List Int, DpAll K H (ns.map V.int) (ns.map .int)
  | [] => .nil
  | x :: xs => .cons (.int x) (dp_ints xs)
theorem FormAt.dp {K : PySem.W.Frag} {Z : Addr → Prop} {H : Hp} {a : Addr} {g : Pr} (f : FormAt Z H a g) : Dp K H (.ref a) (formD g) :=
  let ⟨c, d, h1, h2, h3, _⟩ := f
  .tup (k_st h1) (.cons (.lst (k_sq h2) (dp_ints _)) (.cons (.lst (k_sq h3) (dp_ints _)) .nil))
theorem eqv_form (g h : Pr) : PyData.eqv (formD g) (formD h) = decide (g = h) := by
  unfold formD
  simp only [PyData.eqv, PyData.eqvAll, PySem.W.ked_eqvAll]
  obtain ⟨a, b⟩ := g
  obtain ⟨c, d⟩ := h
  by_cases h1 : a = c <;> by_cases h2 : b = d <;> simp [h1, h2]
theorem lay_ints : ∀ ns : List Int, PyData.canLayAll0 (ns.map .int) = true
  | [] => rfl
  | x :: xs => by
    simp only [List.map_cons, PyData.canLayAll0, PyData.canLay0, lay_ints xs]
    rfl
theorem deep_ints : ∀ ns : List Int, PyData.depthAll (ns.map .int) = 0
  | [] => by simp only [List.map_nil, PyData.depthAll]
  | x :: xs => by simp only [List.map_cons, PyData.depthAll, PyData.depth, deep_ints xs]; rfl
theorem shaped_form (g : Pr) : SeqAt.shaped (formD g) = true := by
  unfold formD SeqAt.shaped
  simp only [PyData.canLay0, PyData.depth, PyData.canLayAll0, PyData.depthAll, lay_ints, deep_ints]
  rfl
theorem shaped_ints (ns : List Int) : SeqAt.shaped (.list (ns.map .int)) = true := by
  unfold SeqAt.shaped
  simp only [PyData.canLay0, PyData.depth, lay_ints, deep_ints]
  rfl
theorem eqv_ints (a b : List Int) : PyData.eqv (.list (a.map .int)) (.list (b.map .int)) = decide (a = b) := by
  simp only [PyData.eqv, PySem.W.ked_eqvAll]
/-- a list of two lists of ints -/
def twoD (g : Pr) : PyData := .list [.list (g.1.map .int), .list (g.2.map .int)]
theorem eqv_two (g h : Pr) : PyData.eqv (twoD g) (twoD h) = decide (g = h) := by
  unfold twoD
  simp only [PyData.eqv, PyData.eqvAll, PySem.W.ked_eqvAll]
  obtain ⟨a, b⟩ := g
  obtain ⟨c, d⟩ := h
  by_cases h1 : a = c <;> by_cases h2 : b = d <;> simp [h1, h2]
theorem shaped_two (g : Pr) : SeqAt.shaped (twoD g) = true := by
  unfold twoD SeqAt.shaped
  simp only [PyData.canLay0, PyData.depth, PyData.canLayAll0, PyData.depthAll, lay_ints, deep_ints]
  rfl
section
variable {K : PySem.W.Frag} {H : Hp} {Q : VK}
theorem k_eqF {Z Z' : Addr → Prop} {a b : Addr} {g h : Pr} (f1 : FormAt Z H a g) (f2 : FormAt Z' H b h) (q : Q (.bl (decide (g = h))) H) : rEqD K (.ref a) (.ref b) H Q :=
  ⟨formD g, formD h, f1.dp, f2.dp, shaped_form g, shaped_form h, by rw [eqv_form]; exact q⟩
theorem k_eqIs {a b : Addr} {g h : List Int} (f1 : SqL K H a (g.map V.int)) (f2 : SqL K H b (h.map V.int)) (q : Q (.bl (decide (g = h))) H) : rEqD K (.ref a) (.ref b) H Q :=
  ⟨_, _, .lst f1 (dp_ints g), .lst f2 (dp_ints h), shaped_ints g, shaped_ints h, by rw [eqv_ints]; exact q⟩
theorem k_neTwo {a b c d e f : Addr} {g h : Pr} (f1 : SqL K H a [.ref c, .ref d]) (f2 : SqL K H b [.ref e, .ref f]) (hc : SqL K H c (g.1.map V.int)) (hd : SqL K H d (g.2.map V.int)) (he : SqL K H e (h.1.map V.int)) (hf : SqL K H f (h.2.map V.int))
    (q : Q (.bl (!decide (g = h))) H) : rNeD K (.ref a) (.ref b) H Q :=
  ⟨twoD g, twoD h, .lst f1 (.cons (.lst hc (dp_ints _)) (.cons (.lst hd (dp_ints _)) .nil)), .lst f2 (.cons (.lst he (dp_ints _)) (.cons (.lst hf (dp_ints _)) .nil)), shaped_two g, shaped_two h, by rw [eqv_two]; exact q⟩
end
section
variable {g : TG} {tt : TT} {te : TE} {vs : List Nat} {σ : L2.St} {Q : VK} {H1 : Hp} {K : PySem.W.Frag} {wi : TI}
theorem turn_flt {i : Nat} {x : V} {b : Bool} (h : ∀ H', Ex H1 H' → ∀ R : Bool → Hp → Prop, R b H' → tt ((wipe σ [i]).set i (some x)) H' R) (w : wipe ((wipe σ [i]).set i (some x)) [i] = wipe σ [i] := by rfl) (v : ((wipe σ [i]).set i (some x))[i]? = some (some x) := by rfl) :
    turnR (gName i) tt (tVar i) [i] σ x (if b = true then some x else none) H1 :=
  fun H' e R r => ⟨w, h H' e _ (by
    cases b
    · exact r H' (Evl.Ex.refl _)
    · exact ⟨x, v, r H' (Evl.Ex.refl _)⟩)⟩
/-- the members of a range that a test keeps -/
def kept (n : Nat) (p : Nat → Bool) : List Int := ((List.range n).filter p).map fun i : Nat => (i : Int)
theorem kept_map (n : Nat) (p : Nat → Bool) : (List.range n).filterMap (fun i => if p i = true then some (V.int (i : Int)) else none) = (kept n p).map V.int := by
  unfold kept
  induction (List.range n) with
  | nil => rfl
  | cons x xs ih =>
    rw [List.filterMap_cons, List.filter_cons]
    by_cases h : p x = true
    · rw [if_pos h, if_pos h, List.map_cons, List.map_cons, ← ih]
    · rw [if_neg h, if_neg h, ← ih]
theorem mem_kept {n : Nat} {p : Nat → Bool} {x : Int} : x ∈ kept n p ↔ ∃ i : Nat, x = i ∧ i < n ∧ p i = true := by
  unfold kept
  rw [List.mem_map]
  constructor
  · rintro ⟨i, h, rfl⟩
    rw [List.mem_filter, List.mem_range] at h
    exact ⟨i, rfl, h.1, h.2⟩
  · rintro ⟨i, rfl, h1, h2⟩
    exact ⟨i, by rw [List.mem_filter, List.mem_range]; exact ⟨h1, h2⟩, rfl⟩
theorem kept_asc (n : Nat) (p : Nat → Bool) : Asc n (kept n p) := by
  refine ⟨?_, fun x m => ?_⟩
  · unfold kept
    rw [List.pairwise_map]
    refine List.Pairwise.imp (fun h => Int.ofNat_lt.mpr h) (List.Pairwise.filter p ?_)
    first | exact List.pairwise_lt_range | exact List.pairwise_lt_range _
  · obtain ⟨i, rfl, h, _⟩ := mem_kept.mp m
    omega
theorem cut_ints (ls : List Int) (lo hi : Option Int) : ∃ l' : List Int, cutV (ls.map V.int) lo hi = l'.map V.int ∧ (∀ x ∈ l', x ∈ ls) ∧ l'.length ≤ ls.length := by
  unfold cutV
  refine ⟨(ls.drop _).take _, by rw [List.map_take, List.map_drop], fun x m => List.mem_of_mem_drop (List.mem_of_mem_take m), ?_⟩
  rw [List.length_take, List.length_drop]
  omega
theorem cut_last {ls : List Int} (h : ls ≠ []) : ∃ l' : List Int, cutV (ls.map V.int) (some (-3)) none = l'.map V.int ∧ (∀ x ∈ l', x ∈ ls) ∧ l' ≠ [] := by
  refine ⟨(ls.drop _).take _, by unfold cutV; rw [List.map_take, List.map_drop], fun x m => List.mem_of_mem_drop (List.mem_of_mem_take m), fun e => ?_⟩
  have hl : 0 < ls.length := List.length_pos_iff.mpr h
  have z := congrArg List.length e
  rw [List.length_take, List.length_drop, List.length_map, HT.sIx_none] at z
  have s : HT.sIx ls.length 0 (some (-3)) = (-3 + (ls.length : Int)).toNat := by
    show (if (-3 : Int) < 0 then (-3 + (ls.length : Int)).toNat else min (-3 : Int).toNat ls.length) = _
    rw [if_pos (by decide)]
  rw [s, List.length_nil] at z
  omega
theorem rng_map (n : Nat) (f : Nat → Int) : (List.range n).filterMap (fun i => some (V.int (f i))) = ((List.range n).map f).map V.int := by
  induction (List.range n) with
  | nil => rfl
  | cons x xs ih => rw [List.filterMap_cons, List.map_cons, List.map_cons, ← ih]
theorem atI_in {ls : List Int} {k : Int} (h0 : 0 ≤ k) (h1 : k < ls.length) : ∃ z, z ∈ ls ∧ atI (ls.map V.int) k = some (.int z) ∧ z = ls.getD k.toNat 0 := by
  obtain ⟨z, hz, e⟩ := at_int h0 h1
  exact ⟨z, List.mem_of_getElem? hz, e, by rw [List.getD_eq_getElem?_getD, hz]; rfl⟩
end
theorem dg_of {ds : List Int} (hd : ∀ d ∈ ds, 0 ≤ d ∧ d < 60) {k : Int} (h0 : 0 ≤ k) (hk : k < ds.length) : ∃ z, atI (ds.map V.int) k = some (.int z) ∧ (0 ≤ z ∧ z < 60) ∧ z = ds.getD k.toNat 0 := by
  obtain ⟨z, m, e, f⟩ := atI_in h0 hk
  exact ⟨z, e, hd z m, f⟩
/-- the height that a law reckons of a new game -/
def HgtL (G : List Pr) (hs : List Int) (p : Pr) (hs' : List Int) : Prop := (p ∈ G ∧ hs' = hs) ∨ (p ∉ G ∧ ∃ m, hs' = hs ++ [m] ∧ m ∈ (0 :: (p.1 ++ p.2).map fun k => 1 + hat hs k) ∧ ∀ y ∈ (0 :: (p.1 ++ p.2).map fun k => 1 + hat hs k), y ≤ m)
section
variable {P : Program} {w : World} {K : PySem.W.Frag} {H H' : Hp} {F : Foot} {G : List Pr} {hs : List Int} {ts : List (Key × V)}
theorem k_if2 {b : Bool} {x y : V} {σ : L2.St} {Q : VK} (q : ∀ v, v = x ∨ v = y → Q v H) : if b = true then tC x σ H Q else tC y σ H Q := by
  cases b
  · exact q y (Or.inr rfl)
  · exact q x (Or.inl rfl)
theorem k_revL {te : TE} {σ : L2.St} {Q : VK} (q : te σ H fun x H1 => ∃ a xs, x = .ref a ∧ SqL K H1 a xs ∧ ∀ p, H1 p = none → Q (.ref p) (upd H1 p (.lst xs.reverse))) : tRevL K te σ H Q := q
theorem sql_keep {Z : Addr → Prop} {a : Addr} {xs : List V} (h : SqL K H a xs) (k : Keep Z H H') (z : ∀ o, H a = some o → ¬ Z a) : SqL K H' a xs := by
  rcases h with (h | ⟨o, h⟩) | h
  · exact Or.inl (Or.inl (k _ _ h (z _ h)))
  · exact Or.inl (Or.inr ⟨o, k _ _ h (z _ h)⟩)
  · exact Or.inr h
/-- one list, not the yard's, is changed -/
theorem YardAt.but (Y : YardAt P w K H F G hs ts) {p : Addr} {ys : List V} (hp : H p = some (.lst ys)) (off : Off F p) (k : ∀ c o, H c = some o → c ≠ p → H' c = some o) : YardAt P w K H' F G hs ts := by
  obtain ⟨o1, o2, o3, o4, o5⟩ := off
  have t : ∀ c zs, H c = some (.tup zs) → H' c = some (.tup zs) := fun c zs z => k _ _ z (ne_of z hp (by intro y; cases y))
  exact ⟨k _ _ Y.ins (ne_of Y.ins hp (by intro y; cases y)), let ⟨xs, h1, h2⟩ := Y.ls; ⟨xs, k _ _ h1 o1.symm, h2.ex t⟩, let ⟨xs, h1, h2⟩ := Y.rs; ⟨xs, k _ _ h1 o2.symm, h2.ex t⟩, ⟨k _ _ Y.hs.1 o3.symm, Y.hs.2⟩,
    let ⟨kvs, h1, h2, h3⟩ := Y.ns; ⟨kvs, k _ _ h1 o4.symm, fun x m => (h2 x m).ex t, h3⟩, k _ _ Y.ts o5.symm, Y.ne, Y.ht, Y.G⟩
end
/-- 0, 1, .. below n -/
def nums (n : Nat) : List Int := (List.range n).map fun i : Nat => (i : Int)
theorem nums_len (n : Nat) : (nums n).length = n := by unfold nums; rw [List.length_map, List.length_range]
theorem nums_at {n : Nat} {k : Int} (h0 : 0 ≤ k) (h1 : k < n) : atI ((nums n).map V.int) k = some (V.int k) := by
  obtain ⟨z, hz, e⟩ := at_int (ns := nums n) h0 (by rw [nums_len]; exact h1)
  rw [e]
  unfold nums at hz
  rw [List.getElem?_map, List.getElem?_range (by omega)] at hz
  have hz : ((k.toNat : Nat) : Int) = z := Option.some.inj hz
  rw [← hz, show ((k.toNat : Nat) : Int) = k by omega]
theorem nums_succ (n : Nat) : nums (n + 1) = nums n ++ [(n : Int)] := by unfold nums; rw [List.range_succ, List.map_append]; rfl
theorem mem_nums {n : Nat} {k : Int} : k ∈ nums n ↔ 0 ≤ k ∧ k < n := by
  unfold nums
  rw [List.mem_map]
  constructor
  · rintro ⟨i, m, rfl⟩
    have := List.mem_range.mp m
    omega
  · rintro ⟨h0, h1⟩
    exact ⟨k.toNat, List.mem_range.mpr (by omega), by omega⟩
theorem onI_id (ns : List Int) : (ns.map V.int).filterMap (onI fun k => k) = ns.map V.int := by rw [onI_map, List.map_id']
theorem sorted_asc {l l' : List Int} (p : l'.Perm l) (le : l'.Pairwise (· ≤ ·)) (a : l.Pairwise (· < ·)) : l' = l := by
  have nd : l'.Nodup := p.nodup_iff.mpr (List.Pairwise.imp (fun h => Int.ne_of_lt h) a)
  exact asc_ext (lt_of_le_nodup l' le nd) a fun k => p.mem_iff
theorem k_sortA {K : PySem.W.Frag} {H : Hp} {Q : VK} {a : Addr} {ns : List Int} (h : SqL K H a (ns.map V.int)) (asc : ns.Pairwise (· < ·)) (q : ∀ p, H p = none → Q (.ref p) (upd H p (.lst (ns.map V.int)))) : rSortedI K [.ref a] H Q :=
  ⟨a, ns, rfl, h, fun ns' p pm le n => by rw [sorted_asc pm le asc]; exact q p n⟩
theorem nums_asc (n : Nat) : Asc n (nums n) := by
  refine ⟨?_, fun x m => mem_nums.mp m⟩
  unfold nums
  rw [List.pairwise_map]
  refine List.Pairwise.imp (fun h => Int.ofNat_lt.mpr h) ?_
  first | exact List.pairwise_lt_range | exact List.pairwise_lt_range _
theorem isHt_one {hs : List Int} {g : Pr} {h h' : Int} (a : IsHt hs g h) (b : IsHt hs g h') : h = h' := by
  rcases a with ⟨e, rfl⟩ | ⟨m, mm, ml, rfl⟩
  · rcases b with ⟨_, rfl⟩ | ⟨m', mm', _⟩
    · rfl
    · rw [e] at mm'; simp at mm'
  · rcases b with ⟨e, _⟩ | ⟨m', mm', ml', rfl⟩
    · rw [e] at mm; simp at mm
    · have h1 := ml m' mm'
      have h2 := ml' m mm
      omega
theorem ht_same {G G' : List Pr} {hs hs' : List Int} (o : HtOk G hs) (o' : HtOk G' hs') (sub : ∀ (i : Nat) (g : Pr), G[i]? = some g → G'[i]? = some g) (f : Forms G) : ∀ (n i : Nat), i < n → i < G.length → hat hs i = hat hs' i := by
  intro n
  induction n with
  | zero => intro i h; exact absurd h (Nat.not_lt_zero _)
  | succ n ih =>
    intro i hi hl
    have hg := List.getElem?_eq_getElem hl
    have a := o i _ hg
    have b := o' i _ (sub i _ hg)
    obtain ⟨a1, a2⟩ := f.asc i _ hg
    have e : (G[i].1 ++ G[i].2).map (hat hs) = (G[i].1 ++ G[i].2).map (hat hs') := by
      refine List.map_congr_left fun k m => ?_
      have bk := Asc.both a1 a2 k m
      have := ih k.toNat (by omega) (by omega)
      rw [show ((k.toNat : Nat) : Int) = k by omega] at this
      exact this
    unfold IsHt at b
    rw [← e] at b
    exact isHt_one a b
theorem nodup_le : ∀ (l m : List Int), l.Nodup → (∀ x ∈ l, x ∈ m) → l.length ≤ m.length
  | [], _, _, _ => Nat.zero_le _
  | x :: l, m, n, s => by
    obtain ⟨n1, n2⟩ := List.nodup_cons.mp n
    have hx := s x List.mem_cons_self
    have h := nodup_le l (m.erase x) n2 fun y my => (List.mem_erase_of_ne (fun (e : y = x) => n1 (e ▸ my))).mpr (s y (List.mem_cons_of_mem _ my))
    rw [List.length_erase_of_mem hx] at h
    have := List.length_pos_of_mem hx
    rw [List.length_cons]
    omega
/-- who is reached from k past none of the done -/
inductive Rch (G : List Pr) (dk : Int → Bool) (k : Int) : Int → Prop
  | root : dk k = false → Rch G dk k k
  | step {i j : Int} {g : Pr} : Rch G dk k i → G[i.toNat]? = some g → j ∈ g.1 ++ g.2 → dk j = false → Rch G dk k j
def dkey (kvs : List (Key × V)) : Int → Bool := fun j => (valV kvs (Sum.inl j)).isSome
theorem Rch.bound {G : List Pr} {dk : Int → Bool} {k j : Int} (f : Forms G) (h0 : 0 ≤ k ∧ k < G.length) (r : Rch G dk k j) : 0 ≤ j ∧ j ≤ k := by
  induction r with
  | root _ => exact ⟨h0.1, Int.le_refl _⟩
  | @step i j g r hg m _ ih =>
    obtain ⟨a1, a2⟩ := f.asc _ _ hg
    have := Asc.both a1 a2 _ m
    omega
end Mine
namespace Mine
open PySem PySem.Spec PyProof.Rows L2
open Sem (wp)
/-! {x}: a set of one int -/
def tSet1 (w : World) (te : TE) : TE := fun σ H Q => ∀ p, H p = none → te σ (upd H p (SetO w p (fun _ => false) 0)) fun v H1 => ∃ k : Int, v = V.int k ∧ H1 p = some (SetO w p (fun _ => false) 0) ∧ Q (.ref p) (upd H1 p (SetO w p (fun j => decide (j = k)) 1))
theorem code_kds {K : PySem.W.Frag} {cd : Value} {q : Str} (h : PySem.W.codeIn K cd q = true) : PySem.W.kdsCode K cd = true := by
  unfold PySem.W.codeIn at h
  unfold PySem.W.kdsCode
  split at h
  · split at h
    · rename_i e
      dsimp only
      rw [e]
    · cases h
  · cases h
theorem pe_set1 {X : Cx} {e : Expr} {te : TE} {pos : Pos} (hc : PySem.W.kdsCode X.K X.env.code = true) (he : PE X e te) (hs : starEach [e] X.env = [(false, eval e X.env)] := by rfl) : PE X (.Set [e] 0 pos) (tSet1 X.w te) := by
  refine ⟨fun pins s σ H Q I h => ?_⟩
  rw [arm_eval_Set]
  refine wpAny_bind (wpAny_standAt ?_)
  refine wpAny_bind (PySem.W.kds_main (I.kIn) hc fun b => ?_)
  rw [hs]
  unfold setDisplay
  dsimp only
  have road : (displayRoad 0 [e] == DisplayRoad.constants) = false := rfl
  rw [road, if_neg (by decide)]
  refine wpAny_bind (wpAny_newSet_raw fun led hl => ?_)
  subst hl
  have hn := I.hok.fresh (Nat.le_refl s.heap.objs.size)
  have R0 := setR_fresh (h := s.heap) X.w
  have I1 := I.laid (a := s.heap.objs.size) (o := SetO X.w s.heap.objs.size (fun _ => false) 0) (t' := s.toks) (fun _ _ q => Heap.get?_push_of_some _ q) (Nat.le_refl _) (setO_new R0)
  refine wpAny_bind (wpAny_holding ?_)
  refine wpAny_bind (m := evalAll [(do let v ← eval e X.env; standAt pos; pure v)]) ?_
  refine wpAny_mono (PySem.W.kds_all (env := X.env) pos [e] _ (fun vs s' => ∃ (k : Int) (tk : Tok) (H1 : Hp), vs = [Value.int k tk] ∧ Inv X pins σ H1 s' ∧ H1 s.heap.objs.size = some (SetO X.w s.heap.objs.size (fun _ => false) 0) ∧ Q (.ref s.heap.objs.size) (upd H1 s.heap.objs.size (SetO X.w s.heap.objs.size (fun j => decide (j = k)) 1))) ?_) (fun vs s' h' => ?_) fun _ _ x => x
  · refine thn (he.run pins _ σ _ _ I1 (h _ hn)) fun u s1 z => ?_
    obtain ⟨v, H1, I2, rv, k, rfl, hp, q⟩ := z
    obtain ⟨tk, rfl⟩ := rv
    exact ⟨k, tk, H1, rfl, I2, hp, q⟩
  · obtain ⟨k, tk, H1, rfl, I2, hp, q⟩ := h'
    refine wpAny_bind (wpAny_holding ?_)
    refine wpAny_bind ?_
    rw [List.forIn_cons]
    refine wpAny_bind (wpAny_bind ?_)
    unfold setAdd
    refine wpAny_holding ?_
    refine wpAny_bind ((intKind X.prog X.w).pyHash (k := k) (intKind_is _ _ _ _) ?_)
    refine setR_add_hashed (s := { s' with toks := s'.toks + 1 }) (show SetR X.w s'.heap s.heap.objs.size (fun _ => false) 0 from setO_get I2 hp) (by decide) fun h' sb R => ?_
    refine wpAny_pure ?_
    dsimp only
    rw [List.forIn_nil]
    refine wpAny_pure ?_
    have road2 : (displayRoad 0 [e] == DisplayRoad.unsure) = false := rfl
    rw [road2, if_neg (by decide)]
    refine wpAny_pure ?_
    show wpAny _ _ (forIn [] _ _ >>= _) _ _ _
    rw [List.forIn_nil]
    refine wpAny_pure (wpAny_pure ?_)
    have hex : ∃ u, h'.get? s.heap.objs.size = some u := by
      have ⟨o, _, _, _, ho, _⟩ := R
      exact ⟨o, ho⟩
    have R2 : SetR X.w h' s.heap.objs.size (fun j => decide (j = k)) 1 := R.congr fun j => by simp
    exact ⟨.ref s.heap.objs.size, _, I2.write (x := s.heap.objs.size) (e := s.heap.objs.size) (t' := s'.toks + 1) (by rw [hp]; exact True.intro) (.inl rfl) (fun b u hb y => (sb.2 b hb).trans y) hex (setO_new R2), rfl, q⟩
/-- a def whose body asks for its own code -/
theorem okC {P : Program} {w : World} {K : PySem.W.Frag} {mg : Str → Option Value} {base : Heap} {x qual : Str} {params : Arguments} {body : List Stmt} {scope : Scope} {dvs : List V} {kws : List (Str × V)} {f : Addr} {fd : FuncData} {CX : CXT} {N ps : List Str} {k : Nat} {sp : Sp}
    (F : FunD K x qual params body scope dvs kws f fd) (S : FnScope N ps scope) (len : ∀ vs H Q E, sp vs H Q E → vs.length = ps.length)
    (hbody : ∀ (cdv : Value), PySem.W.kdsCode K cdv = true → ∀ (A : Around) (outer : List Env) (s : Shared) (H : Hp) (vs : List V) (Q : VK) (E : XK), Room k (A.deeper (envOfC qual scope s.heap.objs.size f cdv)) → sp vs H Q E →
      ∃ t, PSs (cxOf CX P w K mg base N qual scope f cdv A outer s H E) body t ∧ t { nx := fun _ H' => Q .non H', rt := Q } (start N vs) H) : FnOk P w K mg base CX (k + 1) f fd ps sp := by
  obtain ⟨_, _, _, _, _, _, _, cdv, _, _, rfl, lk, hcd, _⟩ := F.ex
  exact fn_of lk hcd S len fun A outer s H vs Q E hr hsp => hbody cdv (code_kds hcd) A outer s H vs Q E hr hsp
end Mine
namespace Mine
open PySem PySem.Spec PyProof.Rows L2
open Evl (Ex)
section
variable {H : Hp} {Q : VK} {K : PySem.W.Frag} {w : World} {σ : L2.St}
theorem k_dnew (q : ∀ p, H p = none → Q (.ref p) (upd H p (.dK []))) : tDNewK σ H Q := q
theorem k_set1 {te : TE} (q : ∀ p, H p = none → te σ (upd H p (SetO w p (fun _ => false) 0)) fun v H1 => ∃ k : Int, v = V.int k ∧ H1 p = some (SetO w p (fun _ => false) 0) ∧ Q (.ref p) (upd H1 p (SetO w p (fun j => decide (j = k)) 1))) : tSet1 w te σ H Q := q
theorem k_sadd {te : TE} {t : TA} (q : te σ H fun x H1 => (∃ a S n, x = V.ref a ∧ H1 a = some (SetO w a S n)) ∧ t σ H1 fun xs H2 => rSAdd w x xs H2 Q) : tSAdd w te t σ H Q := q
theorem k_sIn {k : Int} {a : Addr} {S : Int → Bool} {n : Nat} (h : H a = some (SetO w a S n)) (q : Q (.bl (S k)) H) : rSIn w (.int k) (.ref a) H Q := ⟨k, a, S, n, rfl, rfl, h, q⟩
theorem k_sNot {k : Int} {a : Addr} {S : Int → Bool} {n : Nat} (h : H a = some (SetO w a S n)) (q : Q (.bl (!S k)) H) : rSNotIn w (.int k) (.ref a) H Q := ⟨k, a, S, n, rfl, rfl, h, q⟩
theorem k_gsub {to ti : TE} {t : TSet} {v : V} {R : L2.St → Hp → Prop} (q : to σ H fun o H1 => ti σ H1 fun i H2 => t o i v H2 fun H3 => R σ H3) : gSub to ti t v σ H R := q
theorem k_rng3 {ta : TA} {R : It → Hp → Prop} (q : ta σ H fun vs H1 => ∃ (i j c : Int) (n : Nat), vs = [V.int i, V.int j, V.int c] ∧ RgC i j c n ∧ R (Itc i c n) H1) : iRng3 ta σ H R := q
theorem k_tru {te : TE} {R : Bool → Hp → Prop} (q : te σ H fun x H' => ∃ k, TruV K x H' k ∧ R k H') : tTru K te σ H R := q
theorem tru_L {a : Addr} {xs : List V} {R : Bool → Prop} (h : SqL K H a xs) (q : R (!xs.isEmpty)) : ∃ k, TruV K (.ref a) H k ∧ R k := ⟨_, Or.inl ⟨xs, h, rfl⟩, q⟩
theorem k_rSAdd {a : Addr} {k : Int} {S : Int → Bool} {n : Nat} (h : H a = some (SetO w a S n)) (l : n ≤ 1000) (no : S k = false) (q : Q .non (upd H a (SetO w a (fun j => S j || decide (j = k)) (n + 1)))) : rSAdd w (.ref a) [.int k] H Q :=
  ⟨a, k, S, n, rfl, rfl, h, Nat.lt_of_le_of_lt (Nat.succ_le_succ l) (by decide), by rw [if_neg (by rw [no]; decide)]; exact q⟩
theorem k_rPop {l : Addr} {xs : List V} {y : V} (h : H l = some (.lst (xs ++ [y]))) (q : Q y (upd H l (.lst xs))) : rPop (.ref l) [] H Q :=
  ⟨l, xs ++ [y], y, rfl, rfl, h, by rw [List.length_append, List.length_singleton, Nat.add_sub_cancel, List.getElem?_append_right (Nat.le_refl _), Nat.sub_self]; rfl, by rw [List.dropLast_concat]; exact q⟩
theorem forK_tup {g : TG} {tb : TS} {D : Ends} {a : Addr} {xs : List V} (Pv : Nat → L2.St → Hp → Prop) (h0 : Pv 0 σ H) (hl : ∀ i σ' H', i ≤ xs.length → Pv i σ' H' → SqT K H' a xs)
    (hs : ∀ i x σ' H', xs[i]? = some x → Pv i σ' H' → g x σ' H' fun σ2 H2 => tb { D with nx := Pv (i + 1), ct := Pv (i + 1), bk := D.nx } σ2 H2) (hd : ∀ σ' H', Pv xs.length σ' H' → D.nx σ' H') : forK g tb D σ (Itt K a) H := for_tup Pv h0 hl hs hd
end
end Mine
namespace Mine
open PySem PySem.Spec PyProof.Rows L2
open Evl (Ex)

local macro_rules | `(tactic| walk_at "mcond") => `(tactic| first
  | (show (0 : Int) < _; omega)
  | (show (0 : Int) ≤ _; omega)
  | (show CDiv _ _; exact ⟨by omega, by omega⟩)
  | (show CPow _ _; exact ⟨by omega, by omega, by omega⟩)
  | (show CMul _ _; exact Or.inl ⟨by omega, by omega⟩)
  | (show CMul _ _; exact Or.inr ⟨by omega, by omega⟩)
  | assumption)
local macro_rules | `(tactic| walk_at "mtr") => `(tactic| first
  | assumption
  | (refine tr_step (H := ?_) ?_ ?_; rotate_left; (focus assumption); walk_at "mtr"))
local macro_rules | `(tactic| walk_at "msq") => `(tactic| first
  | assumption
  | (refine k_sq ?_; walk_at "mtr")
  | (refine k_st ?_; walk_at "mtr")
  | exact Evl.ex_l (by first | assumption | solve_by_elim) (by assumption)
  | exact Evl.ex_t (by first | assumption | solve_by_elim) (by assumption))
local macro_rules | `(tactic| walk_at "mins") => `(tactic| walk_at "mtr")
local macro_rules | `(tactic| walk_at "mcls") => `(tactic| first | assumption | (apply FDyadic.cl; assumption))
local macro_rules | `(tactic| walk_at "mna") => `(tactic| first | assumption | (apply FDyadic.nt; assumption) | (apply FDyadic.np; assumption))
local macro_rules | `(tactic| walk_at "mlk") => `(tactic| first | assumption | exact dfs_top _ _ | exact dfs_power _ _)
local macro_rules | `(tactic| walk_at "mdy") => `(tactic| first
  | assumption
  | (refine dy_tr (H := ?_) ?_ ?_; rotate_left; (focus assumption); walk_at "mdy"))
local macro_rules | `(tactic| walk_at "mst") => `(tactic| first
  | with_reducible refine k_seq ?_
  | with_reducible refine k_asg ?_
  | ((with_reducible refine k_fldv (v := ?_) (fs := ?_) (C := ?_) (dx := ?_) (a := ?_) ?_ ?_ ?_ ?_ ?_ ?_); rotate_left 5; (focus exact rfl); (focus walk_at "mins"); (focus walk_at "mcls"); (focus walk_at "mna"); (focus walk_at "mlk"))
  | with_reducible refine k_name ?_
  | ((with_reducible refine k_var (v := ?_) ?_ ?_); rotate_left; (focus exact rfl))
  | with_reducible refine k_c ?_
  | with_reducible refine k_op ?_
  | with_reducible refine k_un ?_
  | with_reducible refine k_I0 ?_
  | with_reducible refine k_pow12 ?_
  | with_reducible refine k_pow18 ?_
  | with_reducible refine k_pow11 ?_
  | with_reducible refine k_pow9 ?_
  | with_reducible refine k_pow30 ?_
  | ((with_reducible refine k_shl1 ?_ ?_); (focus (constructor <;> omega)); intro _ _ _)
  | ((with_reducible refine k_minL ?_); intro _ _ _ _)
  | ((with_reducible refine k_maxL ?_); intro _ _ _ _)
  | ((with_reducible refine k_I ?_ ?_); (focus walk_at "mcond"))
  | with_reducible refine k_U ?_
  | with_reducible refine k_eqI ?_
  | with_reducible refine k_eqB ?_
  | with_reducible refine k_neI ?_
  | with_reducible refine k_isTy ?_
  | with_reducible refine k_isiII ?_
  | with_reducible refine k_isiIB ?_
  | with_reducible refine k_isiBB ?_
  | with_reducible refine k_isN ?_
  | with_reducible refine k_notN ?_
  | with_reducible refine k_chain ?_
  | with_reducible refine k_bl ?_
  | with_reducible refine k_test ?_
  | with_reducible refine k_B ?_
  | with_reducible refine k_and ?_
  | with_reducible refine k_or ?_
  | with_reducible refine k_not ?_
  | with_reducible refine k_if ?_
  | with_reducible refine k_ifS ?_
  | with_reducible refine k_andV ?_
  | with_reducible refine k_orV ?_
  | with_reducible refine k_notV ?_
  | with_reducible refine k_tup ?_
  | with_reducible refine k_lst ?_
  | with_reducible refine k_cb ?_
  | with_reducible refine k_nil ?_
  | with_reducible refine k_cons ?_
  | with_reducible refine k_rInt ?_
  | with_reducible refine k_rAbs ?_
  | with_reducible refine k_rMax ?_
  | with_reducible refine k_rMin ?_
  | ((with_reducible refine k_rLenL (ys := ?_) ?_ ?_); rotate_left; (focus walk_at "msq"))
  | ((with_reducible refine k_rLenT (ys := ?_) ?_ ?_); rotate_left; (focus walk_at "msq"))
  | with_reducible refine k_bm ?_
  | with_reducible refine k_bm0 ?_
  | ((with_reducible refine k_tyl (xs := ?_) ?_ ?_); rotate_left; (focus walk_at "msq"))
  | ((with_reducible refine k_rApp (xs := ?_) ?_ ?_ ?_); rotate_left; (focus walk_at "mtr"))
  | ((with_reducible refine dy_meth (t := ?_) (p := ?_) ?_ ?_ ?_ ?_); rotate_left 2; (focus walk_at "mdy"); (focus decide +kernel); (focus decide +kernel))
  | ((with_reducible refine dy_prop (t := ?_) (p := ?_) ?_ ?_); rotate_left 2; (focus walk_at "mdy"))
  | ((with_reducible refine dy_isC (t := ?_) (p := ?_) ?_ ?_); rotate_left 2; (focus walk_at "mdy"))
  | with_reducible refine k_call ?_
  | with_reducible refine k_meth ?_
  | with_reducible refine k_make ?_
  | with_reducible refine k_prop ?_
  | with_reducible refine k_ret ?_
  | with_reducible refine k_drop ?_
  | with_reducible refine k_next ?_
  | with_reducible refine k_for ?_
  | with_reducible refine k_rng1 ?_
  | with_reducible refine k_rng2 ?_
  | with_reducible refine k_ilist ?_
  | with_reducible refine k_itup ?_
  | with_reducible refine k_iteT ?_
  | with_reducible refine k_iteNT ?_
  | with_reducible refine k_iteNF ?_
  | with_reducible refine k_raise ?_
  | with_reducible refine k_iteF ?_
  | ((with_reducible refine k_ixT (xs := ?_) (v := ?_) ?_ ?_ ?_); rotate_left 2; (focus walk_at "msq"); (focus exact rfl))
  | with_reducible refine k_gnil ?_
  | with_reducible refine k_gcons ?_)
local macro_rules | `(tactic| walk_at "mcls") => `(tactic| first | assumption | (apply FYard.cl; assumption))
local macro_rules | `(tactic| walk_at "mna") => `(tactic| first | assumption | (apply FYard.nl; assumption) | (apply FYard.nr; assumption) | (apply FYard.nh; assumption) | (apply FYard.nn; assumption) | (apply FYard.nt; assumption))
local macro_rules | `(tactic| walk_at "mlk") => `(tactic| first | exact yfs_l _ | exact yfs_r _ | exact yfs_h _ | exact yfs_n _ | exact yfs_t _)
local macro_rules | `(tactic| walk_at "myd") => `(tactic| first
  | assumption
  | (refine YardAt.ex (H := ?_) ?_ ?_; rotate_right; (focus assumption); walk_at "myd"))
local macro_rules | `(tactic| walk_at "mst") => `(tactic| first
  | with_reducible refine k_sfl ?_
  | with_reducible refine k_lc ?_
  | with_reducible refine k_dnew ?_
  | with_reducible refine k_tru ?_
  | with_reducible refine k_rng3 ?_
  | with_reducible refine k_gsub ?_
  | with_reducible refine k_set1 ?_
  | with_reducible refine k_sadd ?_
  | with_reducible refine k_revL ?_
  | with_reducible refine k_nnot ?_
  | with_reducible refine k_nget ?_
  | with_reducible refine k_nput ?_
  | with_reducible refine k_dget ?_
  | with_reducible refine k_din ?_
  | with_reducible refine k_dnotin ?_
  | with_reducible refine k_dput ?_
  | with_reducible refine k_tsl ?_
  | with_reducible refine k_part ?_
  | with_reducible refine k_nopart ?_
  | with_reducible refine k_exi ?_
  | ((with_reducible refine k_rTupL (ys := ?_) ?_ ?_); rotate_left; (focus walk_at "msq"))
  | ((with_reducible refine k_rListL (ys := ?_) ?_ ?_); rotate_left; (focus walk_at "msq"))
  | ((with_reducible refine k_rListT (ys := ?_) ?_ ?_); rotate_left; (focus walk_at "msq"))
  | ((with_reducible refine k_in (ns := ?_) ?_ ?_); rotate_left; (focus walk_at "msq")))
def sp_Yard_d_init (P : Program) (w : World) (K : PySem.W.Frag) : Sp := fun vs H Q _ => ∃ (p dx : Addr), vs = [.ref p] ∧ H p = some (.ins (He.ga K "Yard") dx []) ∧
  ∀ H' F, F.y = p → (∀ c o, H c = some o → c ≠ p → H' c = some o ∧ Off F c) → YardAt P w K H' F [([], [])] [0] [(Sum.inl 0, V.int 0)] → Q .non H'
abbrev N_Yard_d_init : List Str := ["self"]
def t_Yard_d_init (P : Program) (w : World) (K : PySem.W.Frag) (E : XK) : TS := (tSeq (sFld K (tVar 0) (tLst (tCons (tTup tNil) tNil)) "_lefts") (tSeq (sFld K (tVar 0) (tLst (tCons (tTup tNil) tNil)) "_rights") (tSeq (sFld K (tVar 0) (tLst (tCons (tC (.int 0)) tNil)) "_heights") (tSeq (sFld K (tVar 0) (tNDisp P w (tTup (tCons (tTup tNil) (tCons (tTup tNil) tNil))) (tC (.int 0))) "_numbers") (sFld K (tVar 0) (tDisp [((tC (.int 0)), (tC (.int 0)))]) "_turned")))))
theorem len_Yard_d_init {P : Program} {w : World} {K : PySem.W.Frag} {vs : List V} {H : Hp} {Q : VK} {E : XK} (h : sp_Yard_d_init P w K vs H Q E) : vs.length = 1 := by
  obtain ⟨_, _, rfl, _⟩ := h; rfl
/-- all but p stays -/
def Bt (p : Addr) (H H' : Hp) : Prop := ∀ c o, H c = some o → c ≠ p → H' c = some o
theorem Bt.trans {p : Addr} {H H1 H2 : Hp} (a : Bt p H H1) (b : Bt p H1 H2) : Bt p H H2 := fun c o h n => b c o (a c o h n) n
theorem Bt.of {p : Addr} {H H1 : Hp} (a : Ex H H1) : Bt p H H1 := fun c o h _ => a c o h
theorem k_store {K : PySem.W.Frag} {R : L2.St → Hp → Prop} {σ : L2.St} {H2 : Hp} {p C dx : Addr} {fs : List (Str × V)} {f : Str} {v : V} (h : H2 p = some (.ins C dx fs)) (hc : Cls K C) (hn : NoAttr K C f) (hl : fs.length < 1000)
    (q : ∀ H3, Bt p H2 H3 → H3 p = some (.ins C dx (putF f v fs)) → R σ H3) :
    ∃ a C dx fs, V.ref p = V.ref a ∧ H2 a = some (.ins C dx fs) ∧ Cls K C ∧ NoAttr K C f ∧ fs.length < 1000 ∧ R σ (upd H2 a (.ins C dx (putF f v fs))) :=
  ⟨p, C, dx, fs, rfl, h, hc, hn, hl, q _ (fun c o e n => (upd_ne n).trans e) upd_same⟩
theorem pure_Yard_d_init {P : Program} {w : World} {K : PySem.W.Frag} (F : FYard K) (vs : List V) (H : Hp) (Q : VK) (E : XK) (h : sp_Yard_d_init P w K vs H Q E) : t_Yard_d_init P w K E { nx := fun _ H' => Q .non H', rt := Q } (start N_Yard_d_init vs) H := by
  obtain ⟨p, dx, rfl, hp, q⟩ := h
  unfold t_Yard_d_init
  repeat walk_at "mst"
  refine ⟨by decide, fun t1 n1 => ?_⟩
  have e1 := Evl.Ex.new (o := HO.tup []) n1
  have s1 : upd H t1 (HO.tup []) t1 = some (HO.tup []) := upd_same
  generalize upd H t1 (HO.tup []) = H1 at *
  repeat walk_at "mst"
  refine ⟨by show 1 ≤ sizeLine; decide, fun l nl => ?_⟩
  have e2 := Evl.Ex.new (o := HO.lst [V.ref t1]) nl
  have s2 : upd H1 l (HO.lst [V.ref t1]) l = some (HO.lst [V.ref t1]) := upd_same
  generalize upd H1 l (HO.lst [V.ref t1]) = H2 at *
  repeat walk_at "mst"
  refine k_store (e2 _ _ (e1 _ _ hp)) F.cl F.nl (by show 0 < 1000; decide) fun H3 b3 p3 => ?_
  have b03 : Bt p H H3 := (Bt.of (e1.trans e2)).trans b3
  have npt1 : t1 ≠ p := (ne_of_none hp n1).symm
  have npl : l ≠ p := (ne_of_none (e1 _ _ hp) nl).symm
  have t13 := b3 _ _ (e2 _ _ s1) npt1
  have l3 := b3 _ _ s2 npl
  have fresh3 : ∀ c, H3 c = none → H c = none := fun c n => by
    cases q : H c with
    | none => rfl
    | some o =>
      by_cases z : c = p
      · subst z; rw [p3] at n; cases n
      · rw [b03 _ _ q z] at n; cases n
  repeat walk_at "mst"
  refine ⟨by decide, fun t2 n2 => ?_⟩
  have e4 := Evl.Ex.new (o := HO.tup []) n2
  have s4 : upd H3 t2 (HO.tup []) t2 = some (HO.tup []) := upd_same
  generalize upd H3 t2 (HO.tup []) = H4 at *
  repeat walk_at "mst"
  refine ⟨by show 1 ≤ sizeLine; decide, fun r nr => ?_⟩
  have e5 := Evl.Ex.new (o := HO.lst [V.ref t2]) nr
  have s5 : upd H4 r (HO.lst [V.ref t2]) r = some (HO.lst [V.ref t2]) := upd_same
  generalize upd H4 r (HO.lst [V.ref t2]) = H5 at *
  repeat walk_at "mst"
  refine k_store (e5 _ _ (e4 _ _ p3)) F.cl F.nr (by rw [show (putF "_lefts" (V.ref l) []) = [(("_lefts" : Str), V.ref l)] from rfl]; show 1 < 1000; decide) fun H6 b6 p6 => ?_
  have b36 : Bt p H3 H6 := (Bt.of (e4.trans e5)).trans b6
  have npt2 : t2 ≠ p := (ne_of_none p3 n2).symm
  have npr : r ≠ p := (ne_of_none (e4 _ _ p3) nr).symm
  have nlr : l ≠ r := ne_of_none (e4 _ _ l3) nr
  have t26 := b6 _ _ (e5 _ _ s4) npt2
  have r6 := b6 _ _ s5 npr
  have l6 := b36 _ _ l3 npl
  have t16 := b36 _ _ t13 npt1
  repeat walk_at "mst"
  refine ⟨by show 1 ≤ sizeLine; decide, fun h nh => ?_⟩
  have e7 := Evl.Ex.new (o := HO.lst [V.int 0]) nh
  have s7 : upd H6 h (HO.lst [V.int 0]) h = some (HO.lst [V.int 0]) := upd_same
  generalize upd H6 h (HO.lst [V.int 0]) = H7 at *
  repeat walk_at "mst"
  refine k_store (e7 _ _ p6) F.cl F.nh (by have := length_putF "_rights" (V.ref r) (putF "_lefts" (V.ref l) []); have := length_putF "_lefts" (V.ref l) []; simp only [List.length_nil] at *; omega) fun H8 b8 p8 => ?_
  have b68 : Bt p H6 H8 := (Bt.of e7).trans b8
  have nph : h ≠ p := (ne_of_none p6 nh).symm
  have nlh : l ≠ h := ne_of_none l6 nh
  have nrh : r ≠ h := ne_of_none r6 nh
  have h8 := b8 _ _ s7 nph
  repeat walk_at "mst"
  refine fun n nn => ?_
  have e9 := Evl.Ex.new (o := NdO P w n []) nn
  have s9 : upd H8 n (NdO P w n []) n = some (NdO P w n []) := upd_same
  generalize upd H8 n (NdO P w n []) = H9 at *
  repeat walk_at "mst"
  refine ⟨by decide, fun u1 m1 => ?_⟩
  have e10 := Evl.Ex.new (o := HO.tup []) m1
  have s10 : upd H9 u1 (HO.tup []) u1 = some (HO.tup []) := upd_same
  generalize upd H9 u1 (HO.tup []) = H10 at *
  repeat walk_at "mst"
  refine ⟨by decide, fun u2 m2 => ?_⟩
  have e11 := Evl.Ex.new (o := HO.tup []) m2
  have s11 : upd H10 u2 (HO.tup []) u2 = some (HO.tup []) := upd_same
  generalize upd H10 u2 (HO.tup []) = H11 at *
  repeat walk_at "mst"
  refine ⟨by show 2 ≤ sizeLine; decide, fun k mk => ?_⟩
  have e12 := Evl.Ex.new (o := HO.tup [V.ref u1, V.ref u2]) mk
  have s12 : upd H11 k (HO.tup [V.ref u1, V.ref u2]) k = some (HO.tup [V.ref u1, V.ref u2]) := upd_same
  generalize upd H11 k (HO.tup [V.ref u1, V.ref u2]) = H12 at *
  repeat walk_at "mst"
  have kk : PrT H12 k ([], []) := ⟨u1, u2, s12, e12 _ _ (e11 _ _ s10), e12 _ _ s11⟩
  refine ⟨k, ([], []), 0, rfl, rfl, e12 _ _ (e11 _ _ (e10 _ _ s9)), kk, ?_⟩
  have g0 : H12 n = some (NdO P w n []) := e12 _ _ (e11 _ _ (e10 _ _ s9))
  have b13 : ∀ c o, H12 c = some o → c ≠ n → upd H12 n (NdO P w n [(([], []), k, 0)]) c = some o := fun c o z y => (upd_ne y).trans z
  have s13 : upd H12 n (NdO P w n [(([], []), k, 0)]) n = some (NdO P w n [(([], []), k, 0)]) := upd_same
  generalize upd H12 n (NdO P w n [(([], []), k, 0)]) = H13 at *
  have e8c : Ex H8 H12 := e9.trans (e10.trans (e11.trans e12))
  have npn : n ≠ p := (ne_of_none p8 nn).symm
  have e813 : ∀ c o, H8 c = some o → H13 c = some o := fun c o z => b13 _ _ (e8c _ _ z) (ne_of_none z nn)
  have kk13 : PrT H13 k ([], []) := kk.ex fun c xs z => b13 _ _ z (ne_of z g0 (by intro y; cases y))
  repeat walk_at "mst"
  refine k_store (e813 _ _ p8) F.cl F.nn (by have := length_putF "_heights" (V.ref h) (putF "_rights" (V.ref r) (putF "_lefts" (V.ref l) [])); have := length_putF "_rights" (V.ref r) (putF "_lefts" (V.ref l) []); have := length_putF "_lefts" (V.ref l) []; simp only [List.length_nil] at *; omega) fun H14 b14 p14 => ?_
  have n14 := b14 _ _ s13 npn
  have npk : k ≠ p := fun z => by
    obtain ⟨_, _, y, _⟩ := kk13
    rw [z, e813 _ _ p8] at y; cases y
  have kk14 : PrT H14 k ([], []) := by
    refine kk13.ex fun c xs z => b14 _ _ z fun y => ?_
    rw [y, e813 _ _ p8] at z; cases z
  have b814 : Bt p H8 H14 := fun c o z y => b14 _ _ (e813 _ _ z) y
  repeat walk_at "mst"
  refine fun t nt => ?_
  have e15 := Evl.Ex.new (o := HO.dK []) nt
  have s15 : upd H14 t (HO.dK []) t = some (HO.dK []) := upd_same
  generalize upd H14 t (HO.dK []) = H15 at *
  show tPairs _ _ _ _
  unfold tPairs
  repeat walk_at "mst"
  unfold tPairs
  refine ⟨s15, [(Sum.inl 0, V.int 0)], rfl, by decide, ?_⟩
  have b16 : ∀ c o, H15 c = some o → c ≠ t → upd H15 t (HO.dK (mergeK [] [(Sum.inl 0, V.int 0)])) c = some o := fun c o z y => (upd_ne y).trans z
  have s16 : upd H15 t (HO.dK (mergeK [] [(Sum.inl 0, V.int 0)])) t = some (HO.dK [(Sum.inl 0, V.int 0)]) := upd_same
  generalize upd H15 t (HO.dK (mergeK [] [(Sum.inl 0, V.int 0)])) = H16 at *
  have e1416 : ∀ c o, H14 c = some o → H16 c = some o := fun c o z => b16 _ _ (e15 _ _ z) (ne_of_none z nt)
  have npt : t ≠ p := (ne_of_none p14 nt).symm
  repeat walk_at "mst"
  refine k_store (e1416 _ _ p14) F.cl F.nt (by have := length_putF "_numbers" (V.ref n) (putF "_heights" (V.ref h) (putF "_rights" (V.ref r) (putF "_lefts" (V.ref l) []))); have := length_putF "_heights" (V.ref h) (putF "_rights" (V.ref r) (putF "_lefts" (V.ref l) [])); have := length_putF "_rights" (V.ref r) (putF "_lefts" (V.ref l) []); have := length_putF "_lefts" (V.ref l) []; simp only [List.length_nil] at *; omega) fun H17 b17 p17 => ?_
  have b1417 : Bt p H14 H17 := fun c o z y => b17 _ _ (e1416 _ _ z) y
  have b617 : Bt p H6 H17 := b68.trans (b814.trans b1417)
  have b017 : Bt p H H17 := b03.trans (b36.trans b617)
  refine q H17 ⟨p, dx, l, r, h, n, t⟩ rfl (fun c o z y => ⟨b017 _ _ z y, ?_⟩) ⟨p17, ⟨_, b617 _ _ l6 npl, rfl, fun i g e => ?_⟩, ⟨_, b617 _ _ r6 npr, rfl, fun i g e => ?_⟩, ⟨(b814.trans b1417) _ _ h8 nph, rfl⟩, ⟨_, b1417 _ _ n14 npn, fun x m => ?_, rfl, fun i g e => ?_⟩, b17 _ _ s16 npt, ⟨nlr, nlh, nrh⟩, fun i g e => ?_, ⟨rfl, by simp, fun i g e => ?_⟩⟩
  · have z3 := b03 _ _ z y
    have z6 := b36 _ _ z3 y
    have z8 := b68 _ _ z6 y
    have z14 := b814 _ _ z8 y
    exact ⟨ne_of_none (e1 _ _ z) nl, ne_of_none (e4 _ _ z3) nr, ne_of_none z6 nh, ne_of_none z8 nn, ne_of_none z14 nt⟩
  · cases i with
    | zero => cases e; exact ⟨t1, rfl, b617 _ _ t16 npt1⟩
    | succ i => simp at e
  · cases i with
    | zero => cases e; exact ⟨t2, rfl, b617 _ _ t26 npt2⟩
    | succ i => simp at e
  · rw [List.mem_singleton] at m
    subst m
    refine kk14.ex fun c xs z => b1417 _ _ z fun y => ?_
    rw [y, p14] at z; cases z
  · cases i with
    | zero => cases e; exact ⟨k, rfl⟩
    | succ i => simp at e
  · cases i with
    | zero => cases e; exact Or.inl ⟨rfl, rfl⟩
    | succ i => simp at e
  · cases i with
    | zero => cases e; exact ⟨⟨.nil, fun x m => nomatch m⟩, ⟨.nil, fun x m => nomatch m⟩⟩
    | succ i => simp at e
/-- a yard is made -/
theorem mk_yard {P : Program} {w : World} {K : PySem.W.Frag} {H : Hp} {Q : Addr → Hp → Prop} {E : XK} (k : ∀ F H', (∀ c o, H c = some o → H' c = some o ∧ Off F c) → YardAt P w K H' F [([], [])] [0] [(Sum.inl 0, V.int 0)] → Q F.y H') :
    ∀ x dx, H x = none → H dx = none → dx ≠ x → sp_Yard_d_init P w K (.ref x :: ([] ++ [])) (upd (upd H dx (.own x)) x (.ins (He.ga K "Yard") dx [])) (fun v H2 => v = .non ∧ Q x H2) E := by
  intro x dx hx hd hne
  refine ⟨x, dx, rfl, upd_same, fun H' F e fr Y => ⟨rfl, ?_⟩⟩
  subst e
  refine k F H' (fun c o z => ?_) Y
  have h1 : c ≠ F.y := ne_of_none z hx
  refine fr c o ?_ h1
  rw [upd_ne h1, upd_ne (ne_of_none z hd)]
  exact z
def sp_law_cell (K : PySem.W.Frag) : Sp := fun vs H Q _ => ∃ (a : Addr) (ns : List Int) (k : Int), vs = [.ref a, .int k] ∧ SqL K H a (ns.map V.int) ∧ 0 ≤ k ∧ ∀ i, (i ∈ ns ∨ (0 ≤ i ∧ i < 2147483647) ∨ i = 104729 * k + 7) → Q (.int i) H
abbrev N_law_cell : List Str := ["script", "k", "mixed", "cell"]
def t_law_cell (K : PySem.W.Frag) (E : XK) : TS := (tSeq (tIfS (tTest (tOp rLtI (tVar 1) (tCB (rLenQ K) (tCons (tVar 0) tNil)))) (tRet (tOp (rIxL K) (tVar 0) (tVar 1))) tNext) (tSeq (tAsg (tOp rAddI (tOp rMulI (tC (.int 104729)) (tVar 1)) (tC (.int 7))) (gName 2)) (tSeq (tFor (iList K (tVar 0)) (gName 3) (tAsg (tOp rModI (tCB rIntI (tCons (tOp rAddI (tOp rMulI (tVar 2) (tC (.int 31))) (tVar 3)) tNil)) (tC (.int 2147483647))) (gName 2))) (tRet (tVar 2)))))
theorem len_law_cell {K : PySem.W.Frag} {vs : List V} {H : Hp} {Q : VK} {E : XK} (h : sp_law_cell K vs H Q E) : vs.length = 2 := by
  obtain ⟨_, _, _, rfl, _⟩ := h; rfl
theorem pure_law_cell {K : PySem.W.Frag} (vs : List V) (H : Hp) (Q : VK) (E : XK) (h : sp_law_cell K vs H Q E) : t_law_cell K E { nx := fun _ H' => Q .non H', rt := Q } (start N_law_cell vs) H := by
  obtain ⟨a, ns, k, rfl, hS, hk, q⟩ := h
  unfold t_law_cell
  repeat walk_at "mst"
  refine k_iteD (fun hc => ?_) (fun hc => ?_)
  · rw [List.length_map] at hc
    obtain ⟨z, mz, hz⟩ := at_int hk hc
    repeat walk_at "mst"
    exact k_ixL hS hz (q _ (Or.inl (List.mem_of_getElem? mz)))
  · repeat walk_at "mst"
    refine ⟨a, rfl, ⟨_, hS⟩, forK_list (xs := ns.map V.int) (fun i σ H' => H' = H ∧ ∃ (m : Int) (v : Option V), ((0 ≤ m ∧ m < 2147483647) ∨ m = 104729 * k + 7) ∧ σ = [some (.ref a), some (.int k), some (.int m), v]) ⟨rfl, _, _, Or.inr rfl, rfl⟩ ?_ ?_ ?_⟩
    · rintro i σ H' _ ⟨rfl, _⟩; exact hS
    · rintro i x σ H' hx ⟨rfl, m, v, _, rfl⟩
      obtain ⟨z, _, rfl⟩ := get_int hx
      repeat walk_at "mst"
      exact ⟨rfl, _, _, Or.inl ⟨by omega, by omega⟩, rfl⟩
    · rintro σ H' ⟨rfl, m, v, b, rfl⟩
      repeat walk_at "mst"
      exact q _ (Or.inr b)
theorem use_cellB {K : PySem.W.Frag} {H : Hp} {Q : VK} {E : XK} {a : Addr} {ns : List Int} {k : Int} (h : SqL K H a (ns.map V.int)) (h0 : 0 ≤ k) (q : ∀ i, (i ∈ ns ∨ (0 ≤ i ∧ i < 2147483647) ∨ i = 104729 * k + 7) → Q (.int i) H) : sp_law_cell K ([.ref a, .int k] ++ []) H Q E := ⟨a, ns, k, rfl, h, h0, q⟩
theorem use_cell {K : PySem.W.Frag} {H : Hp} {Q : VK} {E : XK} {a : Addr} {ns : List Int} {k : Int} (h : SqL K H a (ns.map V.int)) (h0 : 0 ≤ k) (q : ∀ i, Q (.int i) H) : sp_law_cell K ([.ref a, .int k] ++ []) H Q E := ⟨a, ns, k, rfl, h, h0, fun i _ => q i⟩
def sp_Yard_m_check (P : Program) (w : World) (K : PySem.W.Frag) : Sp := fun vs H Q _ => ∃ (F : Foot) (G : List Pr) (hs : List Int) (ts : List (Key × V)) (g : Int), vs = [.ref F.y, .int g] ∧ YardAt P w K H F G hs ts ∧ 0 ≤ g ∧ g < G.length ∧ Q .non H
abbrev N_Yard_m_check : List Str := ["self", "game"]
def t_Yard_m_check (P : Program) (w : World) (K : PySem.W.Frag) (E : XK) : TS := (tIfS (tNot (tTest (tChain rLeI rLtI (tC (.int 0)) (tVar 1) (tCB (rLenQ K) (tCons (tFld K (tVar 0) "_lefts") tNil))))) tNever tNext)
theorem len_Yard_m_check {P : Program} {w : World} {K : PySem.W.Frag} {vs : List V} {H : Hp} {Q : VK} {E : XK} (h : sp_Yard_m_check P w K vs H Q E) : vs.length = 2 := by
  obtain ⟨_, _, _, _, _, rfl, _⟩ := h; rfl
theorem pure_Yard_m_check {P : Program} {w : World} {K : PySem.W.Frag} (FY : FYard K) (vs : List V) (H : Hp) (Q : VK) (E : XK) (h : sp_Yard_m_check P w K vs H Q E) : t_Yard_m_check P w K E { nx := fun _ H' => Q .non H', rt := Q } (start N_Yard_m_check vs) H := by
  obtain ⟨F, G, hs, ts, g, rfl, Y, g0, g1, q⟩ := h
  obtain ⟨xs, hl, rows⟩ := Y.ls
  have hi := Y.ins
  have len : xs.length = G.length := by rw [rows.1, List.length_map]
  unfold t_Yard_m_check
  repeat walk_at "mst"
  refine k_iteD (fun _ => ?_) (fun h => absurd g0 h)
  repeat walk_at "mst"
  exact k_iteN (fun h => absurd (by rw [len]; exact g1) h) (fun _ => q)
theorem use_check {P : Program} {w : World} {K : PySem.W.Frag} {H : Hp} {Q : VK} {E : XK} {F : Foot} {G : List Pr} {hs : List Int} {ts : List (Key × V)} {g : Int} (Y : YardAt P w K H F G hs ts) (b : 0 ≤ g ∧ g < G.length) (q : Q .non H) : sp_Yard_m_check P w K (.ref F.y :: ([.int g] ++ [])) H Q E := ⟨F, G, hs, ts, g, rfl, Y, b.1, b.2, q⟩
def sp_Yard_p_kept (P : Program) (w : World) (K : PySem.W.Frag) : Sp := fun vs H Q _ => ∃ (F : Foot) (G : List Pr) (hs : List Int) (ts : List (Key × V)) (pl pr : Addr) (as bs : List Int), vs = [.ref F.y, .ref pl, .ref pr] ∧ YardAt P w K H F G hs ts ∧
  H pl = some (.tup (as.map V.int)) ∧ H pr = some (.tup (bs.map V.int)) ∧ Asc G.length as ∧ Asc G.length bs ∧ G.length ≤ 1000 ∧
  ∀ (i : Int) (G' : List Pr) (hs' : List Int) (H' : Hp), Gr F H H' → YardAt P w K H' F G' hs' ts → Put G (as, bs) i G' → Hgt G hs (as, bs) G' hs' → Q (.int i) H'
abbrev N_Yard_p_kept : List Str := ["self", "lefts", "rights", "options", "option"]
def t_Yard_p_kept (P : Program) (w : World) (K : PySem.W.Frag) (E : XK) : TS := (tSeq (tAsg (tTup (tCons (tVar 1) (tCons (tVar 2) tNil))) (gName 3)) (Evl.tCut (tIfS (tB (tNNot P w (tVar 3) (tFld K (tVar 0) "_numbers"))) (tSeq (sNPut P w (tFld K (tVar 0) "_numbers") (tVar 3) (tCB (rLenQ K) (tCons (tFld K (tVar 0) "_lefts") tNil))) (tSeq (tDrop (tBM K "list" rAppend (tFld K (tVar 0) "_heights") (tCons (tOp rAddI (tC (.int 1)) (tCB (rMax K) (tCons (tLc (iTup K (tOp (rCatA K) (tVar 1) (tVar 2))) (gName 4) tYes (tOp (rIxL K) (tFld K (tVar 0) "_heights") (tVar 4)) [4]) tNil))) tNil))) (tSeq (tDrop (tBM K "list" rAppend (tFld K (tVar 0) "_lefts") (tCons (tVar 1) tNil))) (tDrop (tBM K "list" rAppend (tFld K (tVar 0) "_rights") (tCons (tVar 2) tNil)))))) tNext) (tRet (tNGet P w (tFld K (tVar 0) "_numbers") (tVar 3)))))
theorem map_more' (ds : List Int) (z : Int) : ds.map V.int ++ [V.int z] = (ds ++ [z]).map V.int := by simp
theorem len_Yard_p_kept {P : Program} {w : World} {K : PySem.W.Frag} {vs : List V} {H : Hp} {Q : VK} {E : XK} (h : sp_Yard_p_kept P w K vs H Q E) : vs.length = 3 := by
  obtain ⟨_, _, _, _, _, _, _, _, rfl, _⟩ := h; rfl
theorem pure_Yard_p_kept {P : Program} {w : World} {K : PySem.W.Frag} (FY : FYard K) (vs : List V) (H : Hp) (Q : VK) (E : XK) (h : sp_Yard_p_kept P w K vs H Q E) : t_Yard_p_kept P w K E { nx := fun _ H' => Q .non H', rt := Q } (start N_Yard_p_kept vs) H := by
  obtain ⟨F, G, hs, ts, pl, pr, as, bs, rfl, Y, hpl, hpr, aa, ab, big, q⟩ := h
  unfold t_Yard_p_kept
  repeat walk_at "mst"
  refine ⟨by show 2 ≤ sizeLine; decide, fun o no => ?_⟩
  have e1 := Evl.Ex.new (o := HO.tup [V.ref pl, V.ref pr]) no
  have s1 : upd H o (HO.tup [V.ref pl, V.ref pr]) o = some (HO.tup [V.ref pl, V.ref pr]) := upd_same
  generalize upd H o (HO.tup [V.ref pl, V.ref pr]) = H1 at *
  have Y1 := Y.ex e1
  have hpl1 := e1 _ _ hpl
  have hpr1 := e1 _ _ hpr
  have kk : PrT H1 o (as, bs) := ⟨pl, pr, s1, hpl1, hpr1⟩
  have hi := Y1.ins
  obtain ⟨xs, hl, rows⟩ := Y1.ls
  obtain ⟨ys, hr, rowsR⟩ := Y1.rs
  obtain ⟨hh, hlen⟩ := Y1.hs
  obtain ⟨kvs, hn, keys, ents⟩ := Y1.ns
  have lk := ents.look Y1.G.one (p := (as, bs))
  repeat walk_at "mst"
  refine k_cut (fun σ' H' => ∃ (i : Int) (G' : List Pr) (hs' : List Int) (x : Option V), Gr F H H' ∧ YardAt P w K H' F G' hs' ts ∧ PrT H' o (as, bs) ∧ Put G (as, bs) i G' ∧ Hgt G hs (as, bs) G' hs' ∧ σ' = [some (.ref F.y), some (.ref pl), some (.ref pr), some (.ref o), x]) ?_ ?_
  · repeat walk_at "mst"
    refine ⟨F.n, o, kvs, (as, bs), rfl, rfl, hn, keys, kk, ?_⟩
    repeat walk_at "mst"
    by_cases m : (as, bs) ∈ G
    · obtain ⟨k, hk⟩ := List.mem_iff_getElem?.mp m
      rw [if_neg (by rw [lk.2 k hk]; simp)]
      repeat walk_at "mst"
      exact ⟨(k : Int), G, hs, none, Gr.of e1, Y1, kk, Or.inl ⟨k, rfl, hk, rfl⟩, Or.inl ⟨m, rfl⟩, rfl⟩
    · rw [if_pos (by rw [lk.1 m]; rfl)]
      have xl : (xs.length : Int) = (G.length : Int) := by rw [rows.1, List.length_map]
      have some1 : 0 < (as ++ bs).length := by
        rw [List.length_append]
        rcases as with _ | ⟨x, as⟩
        · rcases bs with _ | ⟨y, bs⟩
          · exact absurd (List.mem_of_getElem? Y.G.zero) m
          · simp
        · simp only [List.length_cons]; omega
      have la := aa.len
      have lb := ab.len
      have lab : (as.map V.int).length + (bs.map V.int).length ≤ sizeLine := by
        rw [List.length_map, List.length_map]; exact Nat.le_trans (show _ ≤ 2000 by omega) (by decide)
      repeat walk_at "mst"
      refine ⟨F.n, o, kvs, (as, bs), _, rfl, rfl, rfl, hn, keys, kk, lk.1 m, by rw [ents.1]; exact Nat.lt_of_le_of_lt big (by decide), ?_⟩
      rw [xl]
      have b2 : ∀ c u, H1 c = some u → c ≠ F.n → upd H1 F.n (NdO P w F.n (kvs ++ [((as, bs), o, (G.length : Int))])) c = some u := fun c u z y => (upd_ne y).trans z
      have s2 : upd H1 F.n (NdO P w F.n (kvs ++ [((as, bs), o, (G.length : Int))])) F.n = some (NdO P w F.n (kvs ++ [((as, bs), o, (G.length : Int))])) := upd_same
      generalize upd H1 F.n (NdO P w F.n (kvs ++ [((as, bs), o, (G.length : Int))])) = H2 at *
      have t2 : ∀ c zs, H1 c = some (.tup zs) → H2 c = some (.tup zs) := fun c zs z => b2 _ _ z (ne_of z hn (by intro y; cases y))
      have hi2 := b2 _ _ hi (ne_of hi hn (by intro y; cases y))
      have hh2 := b2 _ _ hh (ne_of hh hn (by intro y; cases y))
      have hl2 := b2 _ _ hl (ne_of hl hn (by intro y; cases y))
      have hr2 := b2 _ _ hr (ne_of hr hn (by intro y; cases y))
      have hpl2 := t2 _ _ hpl1
      have hpr2 := t2 _ _ hpr1
      repeat walk_at "mst"
      refine k_rCatA (k_st hpl2) (k_st hpr2) lab fun p H3 e3 hp => ?_
      refine ⟨p, rfl, ⟨_, hp⟩, lcR_tup (K := K) (onI (hat hs)) hp (by rw [List.length_append]; exact Nat.lt_of_le_of_lt (show _ ≤ 2000 by rw [List.length_map, List.length_map]; omega) (by decide)) (fun x hx => ?_) (fun D H4 nD e4 hD => ?_)⟩
      · rw [← List.map_append] at hx
        obtain ⟨k, hk, rfl⟩ := List.mem_map.mp hx
        have bk : 0 ≤ k ∧ k < G.length := by
          rcases List.mem_append.mp hk with h | h
          · exact aa.2 k h
          · exact ab.2 k h
        refine turn_map fun H' e R r => ?_
        have hi' := e _ _ (e3 _ _ hi2)
        have hh' := e _ _ (e3 _ _ hh2)
        repeat walk_at "mst"
        exact k_ixL (k_sq hh') (hat_at hlen bk.1 bk.2) r
      · rw [← List.map_append, onI_map] at hD
        have e24 := e3.trans e4
        have hi4 := e24 _ _ hi2
        have hh4 := e24 _ _ hh2
        have hl4 := e24 _ _ hl2
        have hr4 := e24 _ _ hr2
        have hn4 := e24 _ _ s2
        repeat walk_at "mst"
        refine k_rMaxL (k_sq hD) (by rw [List.length_map]; exact some1) fun mx mm ml => ?_
        repeat walk_at "mst"
        · exact k_sizeL (by rw [hlen]; omega)
        have b5 : ∀ c u, H4 c = some u → c ≠ F.h → upd H4 F.h (HO.lst (hs.map V.int ++ [V.int (1 + mx)])) c = some u := fun c u z y => (upd_ne y).trans z
        have s5 : upd H4 F.h (HO.lst (hs.map V.int ++ [V.int (1 + mx)])) F.h = some (HO.lst ((hs ++ [1 + mx]).map V.int)) := by rw [upd_same, map_more']
        generalize upd H4 F.h (HO.lst (hs.map V.int ++ [V.int (1 + mx)])) = H5 at *
        have hi5 := b5 _ _ hi4 (ne_of hi4 hh4 (by intro y; cases y))
        have hl5 := b5 _ _ hl4 Y.ne.2.1
        have hr5 := b5 _ _ hr4 Y.ne.2.2
        have hn5 := b5 _ _ hn4 (ne_of hn4 hh4 (by intro y; cases y))
        have t5 : ∀ c zs, H4 c = some (.tup zs) → H5 c = some (.tup zs) := fun c zs z => b5 _ _ z (ne_of z hh4 (by intro y; cases y))
        have xll : xs.length < sizeLine := by
          have : xs.length = G.length := by rw [rows.1, List.length_map]
          rw [this]; exact Nat.lt_of_le_of_lt big (by decide)
        have yll : ys.length < sizeLine := by
          have : ys.length = G.length := by rw [rowsR.1, List.length_map]
          rw [this]; exact Nat.lt_of_le_of_lt big (by decide)
        repeat walk_at "mst"
        · exact xll
        have b6 : ∀ c u, H5 c = some u → c ≠ F.l → upd H5 F.l (HO.lst (xs ++ [V.ref pl])) c = some u := fun c u z y => (upd_ne y).trans z
        have s6 : upd H5 F.l (HO.lst (xs ++ [V.ref pl])) F.l = some (HO.lst (xs ++ [V.ref pl])) := upd_same
        generalize upd H5 F.l (HO.lst (xs ++ [V.ref pl])) = H6 at *
        have hi6 := b6 _ _ hi5 (ne_of hi5 hl5 (by intro y; cases y))
        have hr6 := b6 _ _ hr5 Y.ne.1.symm
        have hn6 := b6 _ _ hn5 (ne_of hn5 hl5 (by intro y; cases y))
        have hh6 := b6 _ _ s5 Y.ne.2.1.symm
        have t6 : ∀ c zs, H5 c = some (.tup zs) → H6 c = some (.tup zs) := fun c zs z => b6 _ _ z (ne_of z hl5 (by intro y; cases y))
        repeat walk_at "mst"
        · exact yll
        have b7 : ∀ c u, H6 c = some u → c ≠ F.r → upd H6 F.r (HO.lst (ys ++ [V.ref pr])) c = some u := fun c u z y => (upd_ne y).trans z
        have s7 : upd H6 F.r (HO.lst (ys ++ [V.ref pr])) F.r = some (HO.lst (ys ++ [V.ref pr])) := upd_same
        generalize upd H6 F.r (HO.lst (ys ++ [V.ref pr])) = H7 at *
        have t7 : ∀ c zs, H1 c = some (.tup zs) → H7 c = some (.tup zs) := fun c zs z => b7 _ _ (t6 _ _ (t5 _ _ (e24 _ _ (t2 _ _ z)))) (ne_of (t6 _ _ (t5 _ _ (e24 _ _ (t2 _ _ z)))) hr6 (by intro y; cases y))
        have pt : Put G (as, bs) (G.length : Int) (G ++ [(as, bs)]) := Or.inr ⟨m, rfl, rfl⟩
        have off7 : ∀ c u, H1 c = some u → Off F c → H7 c = some u := fun c u z f => b7 _ _ (b6 _ _ (b5 _ _ (e24 _ _ (b2 _ _ z f.2.2.2.1)) f.2.2.1) f.1) f.2.1
        have tt := Y1.ts
        have ft : F.t ≠ F.l ∧ F.t ≠ F.r ∧ F.t ≠ F.h ∧ F.t ≠ F.n := ⟨ne_of tt hl (by intro y; cases y), ne_of tt hr (by intro y; cases y), ne_of tt hh (by intro y; cases y), ne_of tt hn (by intro y; cases y)⟩
        have tt7 : H7 F.t = some (.dK ts) := b7 _ _ (b6 _ _ (b5 _ _ (e24 _ _ (b2 _ _ tt ft.2.2.2)) ft.2.2.1) ft.1) ft.2.1
        have hh7 := b7 _ _ hh6 Y.ne.2.2.symm
        have hl7 := b7 _ _ s6 Y.ne.1
        have hn7 := b7 _ _ hn6 (ne_of hn6 hr6 (by intro y; cases y))
        have hi7 := b7 _ _ hi6 (ne_of hi6 hr6 (by intro y; cases y))
        refine ⟨(G.length : Int), G ++ [(as, bs)], hs ++ [1 + mx], none, fun c u z f => off7 c u (e1 c u z) f, ⟨hi7, ⟨_, hl7, ?_⟩, ⟨_, s7, ?_⟩, ⟨hh7, by rw [List.length_append, List.length_append, hlen]; rfl⟩, ⟨_, hn7, ?_, ents.snoc (as, bs) o⟩, tt7, Y.ne, Y.ht.snoc hlen Y.G aa ab (Or.inr ⟨mx, mm, ml, rfl⟩), Y.G.put pt aa ab⟩, kk.ex t7, pt, Or.inr ⟨m, mx, rfl, mm, ml⟩, rfl⟩
        · rw [List.map_append]
          exact (rows.ex t7).snoc (t7 _ _ hpl1)
        · rw [List.map_append]
          exact (rowsR.ex t7).snoc (t7 _ _ hpr1)
        · intro x hx
          rcases List.mem_append.mp hx with h | h
          · exact (keys x h).ex t7
          · rw [List.mem_singleton] at h
            subst h
            exact kk.ex t7
  · rintro σ' H' ⟨i, G', hs', x, gr, Y', kk', pt, hg, rfl⟩
    have hi := Y'.ins
    obtain ⟨kvs', hn', keys', ents'⟩ := Y'.ns
    obtain ⟨k, ei, hk⟩ := pt.get
    repeat walk_at "mst"
    refine ⟨F.n, o, kvs', (as, bs), (k : Int), rfl, rfl, hn', keys', kk', (ents'.look Y'.G.one).2 k hk, ?_⟩
    rw [← ei]
    exact q i G' hs' H' gr Y' pt hg
/-- the ascending list of the members of l -/
def AscOf (l as : List Int) : Prop := as.Pairwise (· < ·) ∧ ∀ k, k ∈ as ↔ k ∈ l
def sp_Yard_m_game (P : Program) (w : World) (K : PySem.W.Frag) : Sp := fun vs H Q _ => ∃ (F : Foot) (G : List Pr) (hs : List Int) (ts : List (Key × V)) (pl pr : Addr) (ls rs : List Int), vs = [.ref F.y, .ref pl, .ref pr] ∧ YardAt P w K H F G hs ts ∧
  SqL K H pl (ls.map V.int) ∧ SqL K H pr (rs.map V.int) ∧ (∀ x ∈ ls, 0 ≤ x ∧ x < G.length) ∧ (∀ x ∈ rs, 0 ≤ x ∧ x < G.length) ∧ (ls.length < 64 ∧ rs.length < 64) ∧ G.length ≤ 1000 ∧
  ∀ (as bs : List Int) (i : Int) (G' : List Pr) (hs' : List Int) (H' : Hp), AscOf ls as → AscOf rs bs → Gr F H H' → YardAt P w K H' F G' hs' ts → Put G (as, bs) i G' → Hgt G hs (as, bs) G' hs' → Q (.int i) H'
abbrev N_Yard_m_game : List Str := ["self", "lefts", "rights", "option"]
def t_Yard_m_game (P : Program) (w : World) (K : PySem.W.Frag) (E : XK) : TS := (tSeq (tFor (iList K (tVar 1)) (gName 3) (tDrop (tMeth (He.ga K "Yard") "check" (sp_Yard_m_check P w K) [] E0 (tVar 0) (tCons (tVar 3) tNil)))) (tSeq (tFor (iList K (tVar 2)) (gName 3) (tDrop (tMeth (He.ga K "Yard") "check" (sp_Yard_m_check P w K) [] E0 (tVar 0) (tCons (tVar 3) tNil)))) (tRet (tMeth (He.ga K "Yard") "_kept" (sp_Yard_p_kept P w K) [] E0 (tVar 0) (tCons (tCB (rTupL K) (tCons (tCB (rSortX w) (tCons (tCB (rSetL K w) (tCons (tVar 1) tNil)) tNil)) tNil)) (tCons (tCB (rTupL K) (tCons (tCB (rSortX w) (tCons (tCB (rSetL K w) (tCons (tVar 2) tNil)) tNil)) tNil)) tNil))))))
theorem len_Yard_m_game {P : Program} {w : World} {K : PySem.W.Frag} {vs : List V} {H : Hp} {Q : VK} {E : XK} (h : sp_Yard_m_game P w K vs H Q E) : vs.length = 3 := by
  obtain ⟨_, _, _, _, _, _, _, _, rfl, _⟩ := h; rfl
theorem AscOf.asc {l as : List Int} {n : Nat} (h : AscOf l as) (b : ∀ x ∈ l, 0 ≤ x ∧ x < (n : Int)) : Asc n as := ⟨h.1, fun x m => b x ((h.2 x).mp m)⟩
theorem pure_Yard_m_game {P : Program} {w : World} {K : PySem.W.Frag} (vs : List V) (H : Hp) (Q : VK) (E : XK) (h : sp_Yard_m_game P w K vs H Q E) : t_Yard_m_game P w K E { nx := fun _ H' => Q .non H', rt := Q } (start N_Yard_m_game vs) H := by
  obtain ⟨F, G, hs, ts, pl, pr, ls, rs, rfl, Y, hpl, hpr, bl, br, few, big, q⟩ := h
  unfold t_Yard_m_game
  repeat walk_at "mst"
  refine ⟨pl, rfl, ⟨_, hpl⟩, forK_list (xs := ls.map V.int) (fun i σ H' => H' = H ∧ ∃ x : Option V, σ = [some (.ref F.y), some (.ref pl), some (.ref pr), x]) ⟨rfl, _, rfl⟩ ?_ ?_ ?_⟩
  · rintro i σ H' _ ⟨rfl, _⟩; exact hpl
  · rintro i x σ H' hx ⟨rfl, y, rfl⟩
    obtain ⟨z, hz, rfl⟩ := get_int hx
    repeat walk_at "mst"
    refine Y.meth (by decide +kernel) (by decide +kernel) (by decide +kernel) (by decide +kernel) (by decide +kernel) ?_
    repeat walk_at "mst"
    refine use_check Y (bl z (List.mem_of_getElem? hz)) ?_
    repeat walk_at "mst"
    exact ⟨rfl, _, rfl⟩
  rintro σ H' ⟨rfl, x, rfl⟩
  repeat walk_at "mst"
  refine ⟨pr, rfl, ⟨_, hpr⟩, forK_list (xs := rs.map V.int) (fun i σ H0 => H0 = H' ∧ ∃ x : Option V, σ = [some (.ref F.y), some (.ref pl), some (.ref pr), x]) ⟨rfl, _, rfl⟩ ?_ ?_ ?_⟩
  · rintro i σ H' _ ⟨rfl, _⟩; exact hpr
  · rintro i x σ H' hx ⟨rfl, y, rfl⟩
    obtain ⟨z, hz, rfl⟩ := get_int hx
    repeat walk_at "mst"
    refine Y.meth (by decide +kernel) (by decide +kernel) (by decide +kernel) (by decide +kernel) (by decide +kernel) ?_
    repeat walk_at "mst"
    refine use_check Y (br z (List.mem_of_getElem? hz)) ?_
    repeat walk_at "mst"
    exact ⟨rfl, _, rfl⟩
  rintro σ H0 ⟨rfl, x, rfl⟩
  repeat walk_at "mst"
  refine Y.meth (by decide +kernel) (by decide +kernel) (by decide +kernel) (by decide +kernel) (by decide +kernel) ?_
  repeat walk_at "mst"
  refine k_rSetL hpl (by omega) fun s1 c1 n1 l1 => ?_
  have e1 := Evl.Ex.new (o := SetO w s1 (fun j => decide (j ∈ ls)) c1) n1
  have a1 : upd H0 s1 (SetO w s1 (fun j => decide (j ∈ ls)) c1) s1 = some (SetO w s1 (fun j => decide (j ∈ ls)) c1) := upd_same
  generalize upd H0 s1 (SetO w s1 (fun j => decide (j ∈ ls)) c1) = H1 at *
  repeat walk_at "mst"
  refine k_rSorted a1 (by omega) fun as p1 asc1 mem1 len1 n2 => ?_
  have e2 := Evl.Ex.new (o := HO.lst (as.map V.int)) n2
  have a2 : upd H1 p1 (HO.lst (as.map V.int)) p1 = some (HO.lst (as.map V.int)) := upd_same
  generalize upd H1 p1 (HO.lst (as.map V.int)) = H2 at *
  repeat walk_at "mst"
  intro q1 n3
  have e3 := Evl.Ex.new (o := HO.tup (as.map V.int)) n3
  have a3 : upd H2 q1 (HO.tup (as.map V.int)) q1 = some (HO.tup (as.map V.int)) := upd_same
  generalize upd H2 q1 (HO.tup (as.map V.int)) = H3 at *
  have e03 := e1.trans (e2.trans e3)
  repeat walk_at "mst"
  refine k_rSetL (Evl.ex_l e03 hpr) (by omega) fun s2 c2 n4 l2 => ?_
  have e4 := Evl.Ex.new (o := SetO w s2 (fun j => decide (j ∈ rs)) c2) n4
  have a4 : upd H3 s2 (SetO w s2 (fun j => decide (j ∈ rs)) c2) s2 = some (SetO w s2 (fun j => decide (j ∈ rs)) c2) := upd_same
  generalize upd H3 s2 (SetO w s2 (fun j => decide (j ∈ rs)) c2) = H4 at *
  repeat walk_at "mst"
  refine k_rSorted a4 (by omega) fun bs p2 asc2 mem2 len2 n5 => ?_
  have e5 := Evl.Ex.new (o := HO.lst (bs.map V.int)) n5
  have a5 : upd H4 p2 (HO.lst (bs.map V.int)) p2 = some (HO.lst (bs.map V.int)) := upd_same
  generalize upd H4 p2 (HO.lst (bs.map V.int)) = H5 at *
  repeat walk_at "mst"
  intro q2 n6
  have e6 := Evl.Ex.new (o := HO.tup (bs.map V.int)) n6
  have a6 : upd H5 q2 (HO.tup (bs.map V.int)) q2 = some (HO.tup (bs.map V.int)) := upd_same
  generalize upd H5 q2 (HO.tup (bs.map V.int)) = H6 at *
  have e36 := e4.trans (e5.trans e6)
  have A1 : AscOf ls as := ⟨asc1, fun k => by rw [mem1]; exact decide_eq_true_iff⟩
  have A2 : AscOf rs bs := ⟨asc2, fun k => by rw [mem2]; exact decide_eq_true_iff⟩
  repeat walk_at "mst"
  refine ⟨F, G, hs, ts, q1, q2, as, bs, rfl, Y.ex (e03.trans e36), e36 _ _ a3, a6, A1.asc bl, A2.asc br, big, fun i G' hs' H' g Y' pt hg => ?_⟩
  exact q as bs i G' hs' H' A1 A2 ((Gr.of (e03.trans e36)).trans g) Y' pt hg
theorem use_game {P : Program} {w : World} {K : PySem.W.Frag} {H : Hp} {Q : VK} {E : XK} {F : Foot} {G : List Pr} {hs : List Int} {ts : List (Key × V)} {pl pr : Addr} {ls rs : List Int} (Y : YardAt P w K H F G hs ts) (h1 : SqL K H pl (ls.map V.int)) (h2 : SqL K H pr (rs.map V.int)) (b1 : ∀ x ∈ ls, 0 ≤ x ∧ x < (G.length : Int)) (b2 : ∀ x ∈ rs, 0 ≤ x ∧ x < (G.length : Int)) (few : ls.length < 64 ∧ rs.length < 64) (big : G.length ≤ 1000)
    (q : ∀ (as bs : List Int) (i : Int) (G' : List Pr) (hs' : List Int) (H' : Hp), AscOf ls as → AscOf rs bs → Gr F H H' → YardAt P w K H' F G' hs' ts → Put G (as, bs) i G' → Hgt G hs (as, bs) G' hs' → Q (.int i) H') : sp_Yard_m_game P w K (.ref F.y :: ([.ref pl, .ref pr] ++ [])) H Q E :=
  ⟨F, G, hs, ts, pl, pr, ls, rs, rfl, Y, h1, h2, b1, b2, few, big, q⟩
def sp_law_drawn (K : PySem.W.Frag) : Sp := fun vs H Q _ => ∃ (Z : Addr → Prop) (m hp dp : Addr) (G : List Pr) (hts ds : List Int) (most : Int), vs = [.ref m, .ref hp, .ref dp, .int most] ∧ ModAt Z H m G ∧ H hp = some (.lst (hts.map V.int)) ∧ hts.length = G.length ∧ hat hts 0 = 0 ∧ 0 < most ∧
  SqL K H dp (ds.map V.int) ∧ 12 ≤ ds.length ∧ (∀ d ∈ ds, 0 ≤ d ∧ d < 60) ∧ Forms G ∧ G.length ≤ 1000 ∧ (∀ c, Z c → H c ≠ none) ∧
  ∀ (t p1 p2 : Addr) (ls rs : List Int) (H' : Hp), Ex H H' → H' t = some (.tup [.ref p1, .ref p2]) → H' p1 = some (.lst (ls.map V.int)) → H' p2 = some (.lst (rs.map V.int)) → ¬ Z p1 → ¬ Z p2 → (∀ x ∈ ls, 0 ≤ x ∧ x < (G.length : Int)) → (∀ x ∈ rs, 0 ≤ x ∧ x < (G.length : Int)) → ls.length ≤ G.length + 4 → rs.length ≤ G.length + 4 → Q (.ref t) H'
abbrev N_law_drawn : List Str := ["model", "heights", "digits", "most", "pool", "k", "lefts", "rights", "base"]
def t_law_drawn (K : PySem.W.Frag) (E : XK) : TS := (tSeq (tAsg (tLc (iRng1 (tCons (tCB (rLenQ K) (tCons (tVar 0) tNil)) tNil)) (gName 5) (tTest (tOp rLtI (tOp (rIxL K) (tVar 1) (tVar 5)) (tVar 3))) (tVar 5) [5]) (gName 4)) (Evl.tCut (tIfS (tTest (tOp rEq (tOp rModI (tCB rIntI (tCons (tOp (rIxL K) (tVar 2) (tC (.int 10))) tNil)) (tC (.int 3))) (tC (.int 1)))) (tAsg (tSl (rSlL K) (tVar 4) (tPart (tUn rNegI (tC (.int 3)))) tNoPart) (gName 4)) tNext) (tSeq (tAsg (tLc (iRng1 (tCons (tOp rModI (tCB rIntI (tCons (tOp (rIxL K) (tVar 2) (tC (.int 0))) tNil)) (tC (.int 5))) tNil)) (gName 5) tYes (tOp (rIxL K) (tVar 4) (tOp rModI (tCB rIntI (tCons (tOp (rIxL K) (tVar 2) (tOp rAddI (tC (.int 1)) (tVar 5))) tNil)) (tCB (rLenQ K) (tCons (tVar 4) tNil)))) [5]) (gName 6)) (tSeq (tAsg (tLc (iRng1 (tCons (tOp rModI (tCB rIntI (tCons (tOp (rIxL K) (tVar 2) (tC (.int 5))) tNil)) (tC (.int 5))) tNil)) (gName 5) tYes (tOp (rIxL K) (tVar 4) (tOp rModI (tCB rIntI (tCons (tOp (rIxL K) (tVar 2) (tOp rAddI (tC (.int 6)) (tVar 5))) tNil)) (tCB (rLenQ K) (tCons (tVar 4) tNil)))) [5]) (gName 7)) (tSeq (tAsg (tOp (rIxL K) (tVar 0) (tOp rModI (tCB rIntI (tCons (tOp (rIxL K) (tVar 2) (tC (.int 11))) tNil)) (tCB (rLenQ K) (tCons (tVar 0) tNil)))) (gName 8)) (tSeq (tIfS (tTest (tOp rEq (tOp rModI (tOp rDivI (tOp (rIxL K) (tVar 2) (tC (.int 10))) (tC (.int 3))) (tC (.int 4))) (tC (.int 1)))) (tRet (tTup (tCons (tSl (rSlL K) (tOp rCat (tOp (rIxT K) (tVar 8) (tC (.int 0))) (tSl (rSlL K) (tVar 6) tNoPart (tPart (tC (.int 1))))) (tPart (tUn rNegI (tC (.int 4)))) tNoPart) (tCons (tOp (rIxT K) (tVar 8) (tC (.int 1))) tNil)))) tNext) (tSeq (tIfS (tTest (tOp rEq (tOp rModI (tOp rDivI (tOp (rIxL K) (tVar 2) (tC (.int 10))) (tC (.int 3))) (tC (.int 4))) (tC (.int 2)))) (tRet (tTup (tCons (tOp (rIxT K) (tVar 8) (tC (.int 0))) (tCons (tSl (rSlL K) (tOp rCat (tOp (rIxT K) (tVar 8) (tC (.int 1))) (tSl (rSlL K) (tVar 7) tNoPart (tPart (tC (.int 1))))) (tPart (tUn rNegI (tC (.int 4)))) tNoPart) tNil)))) tNext) (tRet (tTup (tCons (tVar 6) (tCons (tVar 7) tNil)))))))))))
theorem len_law_drawn {K : PySem.W.Frag} {vs : List V} {H : Hp} {Q : VK} {E : XK} (h : sp_law_drawn K vs H Q E) : vs.length = 4 := by
  obtain ⟨_, _, _, _, _, _, _, _, rfl, _⟩ := h; rfl
theorem range_mem {n : Nat} {f : Nat → Int} {ps : List Int} (h : ∀ i, i < n → f i ∈ ps) : ∀ x ∈ (List.range n).map f, x ∈ ps := by
  intro x m
  obtain ⟨i, hi, rfl⟩ := List.mem_map.mp m
  exact h i (List.mem_range.mp hi)
theorem pick_mem {ps : List Int} (ne : ps ≠ []) (d : Int) : ps.getD (d % (ps.length : Int)).toNat 0 ∈ ps ∧ atI (ps.map V.int) (d % (ps.length : Int)) = some (V.int (ps.getD (d % (ps.length : Int)).toNat 0)) := by
  have hl : 0 < ps.length := List.length_pos_iff.mpr ne
  obtain ⟨z, m, e, f⟩ := atI_in (ls := ps) (k := d % (ps.length : Int)) (Int.emod_nonneg _ (by omega)) (Int.emod_lt_of_pos _ (by omega))
  rw [← f]
  exact ⟨m, e⟩
theorem pure_law_drawn {K : PySem.W.Frag} (vs : List V) (H : Hp) (Q : VK) (E : XK) (h : sp_law_drawn K vs H Q E) : t_law_drawn K E { nx := fun _ H' => Q .non H', rt := Q } (start N_law_drawn vs) H := by
  obtain ⟨Z, m, hp, dp, G, hts, ds, most, rfl, M, hh, hlen, h00, m0, hd, dl, db, FG, big, alive, q⟩ := h
  obtain ⟨xs, hm, fs⟩ := M
  have xl : xs.length = G.length := fs.1
  have g0 : 0 < G.length := (List.getElem?_eq_some_iff.mp FG.zero).1
  have small : G.length < sizeLine := Nat.lt_of_le_of_lt big (by decide)
  unfold t_law_drawn
  repeat walk_at "mst"
  refine ⟨_, rfl, by omega, by omega, ?_⟩
  rw [Int.toNat_natCast, xl]
  refine lcR_rng (fun i => if decide (hat hts (i : Int) < most) = true then some (V.int i) else none) small (fun i hi => ?_) fun D1 H1 nD1 e1 hD1 => ?_
  · refine turn_flt fun H' e R r => ?_
    have hh' := e _ _ hh
    repeat walk_at "mst"
    refine k_ixL (k_sq hh') (hat_at hlen (by omega) (by omega)) ?_
    repeat walk_at "mst"
    exact r
  rw [kept_map] at hD1
  have nz0 : kept G.length (fun i => decide (hat hts (i : Int) < most)) ≠ [] := by
    have : (0 : Int) ∈ kept G.length (fun i => decide (hat hts (i : Int) < most)) := mem_kept.mpr ⟨0, rfl, g0, decide_eq_true (by show hat hts 0 < most; rw [h00]; exact m0)⟩
    intro z; rw [z] at this; cases this
  have bd0 : ∀ x ∈ kept G.length (fun i => decide (hat hts (i : Int) < most)), 0 ≤ x ∧ x < (G.length : Int) := (kept_asc _ _).2
  generalize kept G.length (fun i => decide (hat hts (i : Int) < most)) = ps0 at *
  have hd1 := Evl.ex_l e1 hd
  repeat walk_at "mst"
  refine k_cut (fun σ' H' => ∃ (pp : Addr) (ps : List Int), Ex H H' ∧ H' pp = some (.lst (ps.map V.int)) ∧ ps ≠ [] ∧ (∀ x ∈ ps, 0 ≤ x ∧ x < (G.length : Int)) ∧ σ' = [some (.ref m), some (.ref hp), some (.ref dp), some (.int most), some (.ref pp), none, none, none, none]) ?_ ?_
  · obtain ⟨d10, a10, b10, _⟩ := dg_of db (k := 10) (by omega) (by omega)
    repeat walk_at "mst"
    refine k_ixL hd1 a10 ?_
    repeat walk_at "mst"
    refine k_iteD (fun _ => ?_) (fun _ => ?_)
    · repeat walk_at "mst"
      obtain ⟨l', el, ml, nl⟩ := cut_last nz0
      refine k_slL (k_sq hD1) fun p np => ?_
      rw [el]
      have e2 := Evl.Ex.new (o := HO.lst (l'.map V.int)) np
      have s2 : upd H1 p (HO.lst (l'.map V.int)) p = some (HO.lst (l'.map V.int)) := upd_same
      repeat walk_at "mst"
      exact ⟨p, l', e1.trans e2, s2, nl, fun x mx => bd0 x (ml x mx), rfl⟩
    · repeat walk_at "mst"
      exact ⟨D1, ps0, e1, hD1, nz0, bd0, rfl⟩
  rintro σ' H2 ⟨pp, ps, e2, hpp, ne, bd, rfl⟩
  have hd2 := Evl.ex_l e2 hd
  obtain ⟨d0, a0, b0, _⟩ := dg_of db (k := 0) (by omega) (by omega)
  obtain ⟨d5, a5, b5, _⟩ := dg_of db (k := 5) (by omega) (by omega)
  obtain ⟨d11, a11, b11, _⟩ := dg_of db (k := 11) (by omega) (by omega)
  obtain ⟨d10, a10, b10, _⟩ := dg_of db (k := 10) (by omega) (by omega)
  have pl : 0 < ps.length := List.length_pos_iff.mpr ne
  repeat walk_at "mst"
  refine k_ixL hd2 a0 ?_
  repeat walk_at "mst"
  refine ⟨_, rfl, by omega, by omega, lcR_rng (n := (d0 % 5).toNat) (fun i => some (V.int (ps.getD (ds.getD (1 + (i : Int)).toNat 0 % (ps.length : Int)).toNat 0))) (Nat.lt_of_le_of_lt (show _ ≤ 10 by omega) (by decide)) (fun i hi => ?_) fun D3 H3 nD3 e3 hD3 => ?_⟩
  · refine turn_map fun H' e R r => ?_
    have hd' := Evl.ex_l e hd2
    have hpp' := e _ _ hpp
    obtain ⟨z, az, bz, ez⟩ := dg_of db (k := 1 + (i : Int)) (by omega) (by omega)
    obtain ⟨_, pick⟩ := pick_mem ne z
    rw [← ez] at r
    repeat walk_at "mst"
    refine k_ixL hd' az ?_
    repeat walk_at "mst"
    rw [List.length_map]
    repeat walk_at "mst"
    exact k_ixL (k_sq hpp') pick r
  rw [rng_map] at hD3
  have ml : ∀ x ∈ (List.range (d0 % 5).toNat).map (fun i : Nat => ps.getD (ds.getD (1 + (i : Int)).toNat 0 % (ps.length : Int)).toNat 0), 0 ≤ x ∧ x < (G.length : Int) := fun x mx => bd x (range_mem (fun i _ => (pick_mem ne _).1) x mx)
  have ll : ((List.range (d0 % 5).toNat).map (fun i : Nat => ps.getD (ds.getD (1 + (i : Int)).toNat 0 % (ps.length : Int)).toNat 0)).length ≤ 4 := by rw [List.length_map, List.length_range]; omega
  generalize (List.range (d0 % 5).toNat).map (fun i : Nat => ps.getD (ds.getD (1 + (i : Int)).toNat 0 % (ps.length : Int)).toNat 0) = ls at *
  have hd3 := Evl.ex_l e3 hd2
  have hpp3 := e3 _ _ hpp
  repeat walk_at "mst"
  refine k_ixL hd3 a5 ?_
  repeat walk_at "mst"
  refine ⟨_, rfl, by omega, by omega, lcR_rng (n := (d5 % 5).toNat) (fun i => some (V.int (ps.getD (ds.getD (6 + (i : Int)).toNat 0 % (ps.length : Int)).toNat 0))) (Nat.lt_of_le_of_lt (show _ ≤ 10 by omega) (by decide)) (fun i hi => ?_) fun D4 H4 nD4 e4 hD4 => ?_⟩
  · refine turn_map fun H' e R r => ?_
    have hd' := Evl.ex_l e hd3
    have hpp' := e _ _ hpp3
    obtain ⟨z, az, bz, ez⟩ := dg_of db (k := 6 + (i : Int)) (by omega) (by omega)
    obtain ⟨_, pick⟩ := pick_mem ne z
    rw [← ez] at r
    repeat walk_at "mst"
    refine k_ixL hd' az ?_
    repeat walk_at "mst"
    rw [List.length_map]
    repeat walk_at "mst"
    exact k_ixL (k_sq hpp') pick r
  rw [rng_map] at hD4
  have mr : ∀ x ∈ (List.range (d5 % 5).toNat).map (fun i : Nat => ps.getD (ds.getD (6 + (i : Int)).toNat 0 % (ps.length : Int)).toNat 0), 0 ≤ x ∧ x < (G.length : Int) := fun x mx => bd x (range_mem (fun i _ => (pick_mem ne _).1) x mx)
  have lr : ((List.range (d5 % 5).toNat).map (fun i : Nat => ps.getD (ds.getD (6 + (i : Int)).toNat 0 % (ps.length : Int)).toNat 0)).length ≤ 4 := by rw [List.length_map, List.length_range]; omega
  generalize (List.range (d5 % 5).toNat).map (fun i : Nat => ps.getD (ds.getD (6 + (i : Int)).toNat 0 % (ps.length : Int)).toNat 0) = rs at *
  have hd4 := Evl.ex_l e4 hd3
  have e24 := e3.trans e4
  have e04 := e2.trans e24
  have hm4 := e04 _ _ hm
  have fs4 := fs.ex e04
  have hD34 := e4 _ _ hD3
  have fr : ∀ c H', Ex H H' → H' c = none → ¬ Z c := fun c H' e n z => by
    cases y : H c with
    | none => exact alive c z y
    | some o => rw [e _ _ y] at n; cases n
  have zD3 : ¬ Z D3 := fr D3 H2 e2 nD3
  have zD4 : ¬ Z D4 := fr D4 H3 (e2.trans e3) nD4
  repeat walk_at "mst"
  refine k_ixL hd4 a11 ?_
  repeat walk_at "mst"
  have hj : (d11 % (xs.length : Int)).toNat < G.length := by
    have h1 := Int.emod_nonneg d11 (show (xs.length : Int) ≠ 0 by omega)
    have h2 := Int.emod_lt_of_pos d11 (show (0 : Int) < (xs.length : Int) by omega)
    omega
  have ej : d11 % (xs.length : Int) = (((d11 % (xs.length : Int)).toNat : Nat) : Int) := by
    have h1 := Int.emod_nonneg d11 (show (xs.length : Int) ≠ 0 by omega)
    omega
  obtain ⟨ba, hba, fb⟩ := fs4.2 _ G[(d11 % (xs.length : Int)).toNat] (List.getElem?_eq_getElem hj)
  have as := FG.asc _ _ (List.getElem?_eq_getElem hj)
  generalize G[(d11 % (xs.length : Int)).toNat] = g at *
  refine k_ixL (k_sq hm4) (by rw [ej]; exact atI_nat hba) ?_
  obtain ⟨c, d, hb, hc, hdd, zc, zd⟩ := fb
  have as1 := as.1.up (Nat.le_of_lt hj)
  have as2 := as.2.up (Nat.le_of_lt hj)
  have l1 := as1.len
  have l2 := as2.len
  repeat walk_at "mst"
  refine k_ixL hd4 a10 ?_
  repeat walk_at "mst"
  refine k_iteD (fun _ => ?_) (fun _ => ?_)
  · repeat walk_at "mst"
    obtain ⟨l', el, mm, nn⟩ := cut_ints ls none (some 1)
    refine k_slL (k_sq hD34) fun p np => ?_
    rw [el]
    have e5 := Evl.Ex.new (o := HO.lst (l'.map V.int)) np
    have s5 : upd H4 p (HO.lst (l'.map V.int)) p = some (HO.lst (l'.map V.int)) := upd_same
    generalize upd H4 p (HO.lst (l'.map V.int)) = H5 at *
    repeat walk_at "mst"
    refine k_rCat (e5 _ _ hc) s5 (by rw [List.length_map, List.length_map]; exact Nat.le_trans (show _ ≤ 2000 by omega) (by decide)) fun u nu => ?_
    rw [← List.map_append]
    have e6 := Evl.Ex.new (o := HO.lst ((g.1 ++ l').map V.int)) nu
    have s6 : upd H5 u (HO.lst ((g.1 ++ l').map V.int)) u = some (HO.lst ((g.1 ++ l').map V.int)) := upd_same
    generalize upd H5 u (HO.lst ((g.1 ++ l').map V.int)) = H6 at *
    repeat walk_at "mst"
    obtain ⟨l2', el2, mm2, nn2⟩ := cut_ints (g.1 ++ l') (some (-4)) none
    refine k_slL (k_sq s6) fun v nv => ?_
    rw [el2]
    have e7 := Evl.Ex.new (o := HO.lst (l2'.map V.int)) nv
    have s7 : upd H6 v (HO.lst (l2'.map V.int)) v = some (HO.lst (l2'.map V.int)) := upd_same
    generalize upd H6 v (HO.lst (l2'.map V.int)) = H7 at *
    have e47 := e5.trans (e6.trans e7)
    have hb7 := e47 _ _ hb
    repeat walk_at "mst"
    refine ⟨by show 2 ≤ sizeLine; decide, fun t nt => ?_⟩
    have e8 := Evl.Ex.new (o := HO.tup [V.ref v, V.ref d]) nt
    have s8 : upd H7 t (HO.tup [V.ref v, V.ref d]) t = some (HO.tup [V.ref v, V.ref d]) := upd_same
    generalize upd H7 t (HO.tup [V.ref v, V.ref d]) = H8 at *
    refine q t v d l2' g.2 H8 (e04.trans (e47.trans e8)) s8 (e8 _ _ s7) (e8 _ _ (e47 _ _ hdd)) (fr v H6 (e04.trans (e5.trans e6)) nv) zd (fun x mx => ?_) as2.2 (by rw [List.length_append] at nn2; omega) (by omega)
    rcases List.mem_append.mp (mm2 x mx) with h | h
    · exact as1.2 x h
    · exact ml x (mm x h)
  · repeat walk_at "mst"
    refine k_ixL hd4 a10 ?_
    repeat walk_at "mst"
    refine k_iteD (fun _ => ?_) (fun _ => ?_)
    · repeat walk_at "mst"
      obtain ⟨l', el, mm, nn⟩ := cut_ints rs none (some 1)
      refine k_slL (k_sq hD4) fun p np => ?_
      rw [el]
      have e5 := Evl.Ex.new (o := HO.lst (l'.map V.int)) np
      have s5 : upd H4 p (HO.lst (l'.map V.int)) p = some (HO.lst (l'.map V.int)) := upd_same
      generalize upd H4 p (HO.lst (l'.map V.int)) = H5 at *
      repeat walk_at "mst"
      refine k_rCat (e5 _ _ hdd) s5 (by rw [List.length_map, List.length_map]; exact Nat.le_trans (show _ ≤ 2000 by omega) (by decide)) fun u nu => ?_
      rw [← List.map_append]
      have e6 := Evl.Ex.new (o := HO.lst ((g.2 ++ l').map V.int)) nu
      have s6 : upd H5 u (HO.lst ((g.2 ++ l').map V.int)) u = some (HO.lst ((g.2 ++ l').map V.int)) := upd_same
      generalize upd H5 u (HO.lst ((g.2 ++ l').map V.int)) = H6 at *
      repeat walk_at "mst"
      obtain ⟨l2', el2, mm2, nn2⟩ := cut_ints (g.2 ++ l') (some (-4)) none
      refine k_slL (k_sq s6) fun v nv => ?_
      rw [el2]
      have e7 := Evl.Ex.new (o := HO.lst (l2'.map V.int)) nv
      have s7 : upd H6 v (HO.lst (l2'.map V.int)) v = some (HO.lst (l2'.map V.int)) := upd_same
      generalize upd H6 v (HO.lst (l2'.map V.int)) = H7 at *
      have e47 := e5.trans (e6.trans e7)
      repeat walk_at "mst"
      refine ⟨by show 2 ≤ sizeLine; decide, fun t nt => ?_⟩
      have e8 := Evl.Ex.new (o := HO.tup [V.ref c, V.ref v]) nt
      have s8 : upd H7 t (HO.tup [V.ref c, V.ref v]) t = some (HO.tup [V.ref c, V.ref v]) := upd_same
      generalize upd H7 t (HO.tup [V.ref c, V.ref v]) = H8 at *
      refine q t c v g.1 l2' H8 (e04.trans (e47.trans e8)) s8 (e8 _ _ (e47 _ _ hc)) (e8 _ _ s7) zc (fr v H6 (e04.trans (e5.trans e6)) nv) as1.2 (fun x mx => ?_) (by omega) (by rw [List.length_append] at nn2; omega)
      rcases List.mem_append.mp (mm2 x mx) with h | h
      · exact as2.2 x h
      · exact mr x (mm x h)
    · repeat walk_at "mst"
      refine ⟨by show 2 ≤ sizeLine; decide, fun t nt => ?_⟩
      have e8 := Evl.Ex.new (o := HO.tup [V.ref D3, V.ref D4]) nt
      have s8 : upd H4 t (HO.tup [V.ref D3, V.ref D4]) t = some (HO.tup [V.ref D3, V.ref D4]) := upd_same
      generalize upd H4 t (HO.tup [V.ref D3, V.ref D4]) = H8 at *
      exact q t D3 D4 ls rs H8 (e04.trans e8) s8 (e8 _ _ hD34) (e8 _ _ hD4) zD3 zD4 ml mr (by omega) (by omega)
theorem use_drawn {K : PySem.W.Frag} {H : Hp} {Q : VK} {E : XK} {Z : Addr → Prop} {m hp dp : Addr} {G : List Pr} {hts ds : List Int} {most : Int} (M : ModAt Z H m G) (hh : H hp = some (.lst (hts.map V.int))) (hl : hts.length = G.length) (h0 : hat hts 0 = 0) (m0 : 0 < most)
    (hd : SqL K H dp (ds.map V.int)) (dl : 12 ≤ ds.length) (db : ∀ d ∈ ds, 0 ≤ d ∧ d < 60) (F : Forms G) (big : G.length ≤ 1000) (alive : ∀ c, Z c → H c ≠ none)
    (q : ∀ (t p1 p2 : Addr) (ls rs : List Int) (H' : Hp), Ex H H' → H' t = some (.tup [.ref p1, .ref p2]) → H' p1 = some (.lst (ls.map V.int)) → H' p2 = some (.lst (rs.map V.int)) → ¬ Z p1 → ¬ Z p2 → (∀ x ∈ ls, 0 ≤ x ∧ x < (G.length : Int)) → (∀ x ∈ rs, 0 ≤ x ∧ x < (G.length : Int)) → ls.length ≤ G.length + 4 → rs.length ≤ G.length + 4 → Q (.ref t) H') :
    sp_law_drawn K ([.ref m, .ref hp, .ref dp, .int most] ++ []) H Q E := ⟨Z, m, hp, dp, G, hts, ds, most, rfl, M, hh, hl, h0, m0, hd, dl, db, F, big, alive, q⟩
def sp_law_digits (K : PySem.W.Frag) : Sp := spR (fun vs H => ∃ (c n : Int), vs = [.int c, .int n] ∧ 0 ≤ n ∧ n ≤ 1000)
  (fun vs H v H' => ∃ (c n : Int) (p : Addr) (ds : List Int), vs = [.int c, .int n] ∧ v = .ref p ∧ H p = none ∧ Ex H H' ∧ H' p = some (.lst (ds.map V.int)) ∧ (ds.length : Int) = n ∧ ∀ d ∈ ds, 0 ≤ d ∧ d < 60)
abbrev N_law_digits : List Str := ["cell", "count", "row", "k", "seed"]
def t_law_digits (K : PySem.W.Frag) (E : XK) : TS := (tSeq (tAsg (tLst tNil) (gName 2)) (tSeq (tIfS (tTest (tOp rGeI (tVar 0) (tOp rPowI (tC (.int 10)) (tC (.int 18))))) (tSeq (tFor (iRng1 (tCons (tVar 1) tNil)) (gName 3) (tSeq (tDrop (tBM K "list" rAppend (tVar 2) (tCons (tOp rModI (tCB rIntI (tCons (tVar 0) tNil)) (tC (.int 60))) tNil))) (tAsg (tOp rDivI (tVar 0) (tC (.int 60))) (gName 0)))) (tRet (tVar 2))) tNext) (tSeq (tAsg (tOp rModI (tCB rIntI (tCons (tOp rAddI (tOp rMulI (tVar 0) (tC (.int 48271))) (tC (.int 11))) tNil)) (tC (.int 2147483647))) (gName 4)) (tSeq (tFor (iRng1 (tCons (tVar 1) tNil)) (gName 3) (tSeq (tAsg (tOp rModI (tCB rIntI (tCons (tOp rAddI (tOp rAddI (tOp rMulI (tVar 4) (tC (.int 69621))) (tOp rMulI (tC (.int 7)) (tVar 3))) (tC (.int 1))) tNil)) (tC (.int 2147483629))) (gName 4)) (tDrop (tBM K "list" rAppend (tVar 2) (tCons (tOp rModI (tCB rIntI (tCons (tOp rDivI (tVar 4) (tC (.int 64))) tNil)) (tC (.int 60))) tNil))))) (tRet (tVar 2))))))
theorem len_law_digits {K : PySem.W.Frag} {vs : List V} {H : Hp} {Q : VK} {E : XK} (h : sp_law_digits K vs H Q E) : vs.length = 2 := by
  obtain ⟨⟨_, _, rfl, _⟩, _⟩ := h; rfl
theorem dg_more {ds : List Int} {z : Int} (h : ∀ d ∈ ds, 0 ≤ d ∧ d < 60) (hz : 0 ≤ z ∧ z < 60) : ∀ d ∈ ds ++ [z], 0 ≤ d ∧ d < 60 := by
  intro d hd
  rcases List.mem_append.mp hd with m | m
  · exact h d m
  · rw [List.mem_singleton.mp m]; exact hz
theorem map_more (ds : List Int) (z : Int) : ds.map V.int ++ [V.int z] = (ds ++ [z]).map V.int := by simp
theorem pure_law_digits {K : PySem.W.Frag} (vs : List V) (H : Hp) (Q : VK) (E : XK) (h : sp_law_digits K vs H Q E) : t_law_digits K E { nx := fun _ H' => Q .non H', rt := Q } (start N_law_digits vs) H := by
  obtain ⟨⟨c, n, rfl, h0, h1⟩, q⟩ := h
  unfold t_law_digits
  repeat walk_at "mst"
  refine ⟨by show 0 ≤ sizeLine; decide, fun p hp => ?_⟩
  repeat walk_at "mst"
  refine k_iteD (fun hc => ?_) (fun hc => ?_)
  · repeat walk_at "mst"
    refine ⟨_, rfl, by omega, by omega, forK_range (fun i σ H' => Ex H H' ∧ ∃ (ds : List Int) (m : Int) (v w : Option V), H' p = some (.lst (ds.map V.int)) ∧ ds.length = i ∧ (∀ d ∈ ds, 0 ≤ d ∧ d < 60) ∧ σ = [some (.int m), some (.int n), some (.ref p), v, w]) ?_ ?_ ?_⟩
    · exact ⟨Evl.Ex.new hp, [], c, none, none, upd_same, rfl, by simp, rfl⟩
    · rintro i σ H' hi ⟨e, ds, m, v, w, hl, hn, hd, rfl⟩
      repeat walk_at "mst"
      · exact k_sizeL (by omega)
      repeat walk_at "mst"
      exact ⟨Evl.Ex.mut e hp, ds ++ [m % 60], _, _, _, by rw [upd_same, map_more], by simp [hn], dg_more hd ⟨by omega, by omega⟩, rfl⟩
    · rintro σ H' ⟨e, ds, m, v, w, hl, hn, hd, rfl⟩
      repeat walk_at "mst"
      exact q _ _ ⟨c, n, p, ds, rfl, rfl, hp, e, hl, by omega, hd⟩
  · repeat walk_at "mst"
    refine ⟨_, rfl, by omega, by omega, forK_range (fun i σ H' => Ex H H' ∧ ∃ (ds : List Int) (m : Int) (v : Option V), H' p = some (.lst (ds.map V.int)) ∧ ds.length = i ∧ (∀ d ∈ ds, 0 ≤ d ∧ d < 60) ∧ σ = [some (.int c), some (.int n), some (.ref p), v, some (.int m)]) ?_ ?_ ?_⟩
    · exact ⟨Evl.Ex.new hp, [], _, _, upd_same, rfl, by simp, rfl⟩
    · rintro i σ H' hi ⟨e, ds, m, v, hl, hn, hd, rfl⟩
      repeat walk_at "mst"
      · exact k_sizeL (by omega)
      repeat walk_at "mst"
      exact ⟨Evl.Ex.mut e hp, ds ++ [_], _, _, by rw [upd_same, map_more], by simp [hn], dg_more hd ⟨by omega, by omega⟩, rfl⟩
    · rintro σ H' ⟨e, ds, m, v, hl, hn, hd, rfl⟩
      repeat walk_at "mst"
      exact q _ _ ⟨c, n, p, ds, rfl, rfl, hp, e, hl, by omega, hd⟩
theorem use_digits {K : PySem.W.Frag} {H : Hp} {Q : VK} {E : XK} {c n : Int} (h : 0 ≤ n ∧ n ≤ 1000) (q : ∀ (p : Addr) (ds : List Int) (H' : Hp), H p = none → Ex H H' → H' p = some (.lst (ds.map V.int)) → (ds.length : Int) = n → (∀ d ∈ ds, 0 ≤ d ∧ d < 60) → Q (.ref p) H') : sp_law_digits K ([.int c, .int n] ++ []) H Q E := by
  refine ⟨⟨c, n, rfl, h.1, h.2⟩, ?_⟩
  rintro v H' ⟨c', n', p, ds, e, rfl, h1, h2, h3, h4, h5⟩
  cases e
  exact q p ds H' h1 h2 h3 h4 h5
def sp_law_put (K : PySem.W.Frag) : Sp := fun vs H Q _ => ∃ (Z : Addr → Prop) (m hp pl pr : Addr) (G : List Pr) (hts ls rs : List Int), vs = [.ref m, .ref hp, .ref pl, .ref pr] ∧ ModAt Z H m G ∧ H hp = some (.lst (hts.map V.int)) ∧ hts.length = G.length ∧ Z m ∧ Z hp ∧ (∀ c, Z c → H c ≠ none) ∧
  SqL K H pl (ls.map V.int) ∧ SqL K H pr (rs.map V.int) ∧ (∀ x ∈ ls, 0 ≤ x ∧ x < G.length) ∧ (∀ x ∈ rs, 0 ≤ x ∧ x < G.length) ∧ m ≠ hp ∧ G.length ≤ 1000 ∧
  ∀ (as bs : List Int) (i : Int) (G' : List Pr) (hts' : List Int) (H' : Hp), AscOf ls as → AscOf rs bs → (∀ c o, H c = some o → c ≠ m → c ≠ hp → H' c = some o) → ModAt Z H' m G' → H' hp = some (.lst (hts'.map V.int)) → hts'.length = G'.length → Put G (as, bs) i G' → HgtL G hts (as, bs) hts' → Q (.int i) H'
abbrev N_law_put : List Str := ["model", "heights", "lefts", "rights", "form", "k"]
def t_law_put (K : PySem.W.Frag) (E : XK) : TS := (tSeq (tAsg (tTup (tCons (tLc (iRng1 (tCons (tCB (rLenQ K) (tCons (tVar 0) tNil)) tNil)) (gName 5) (tTest (tOp (rIn K false) (tVar 5) (tVar 2))) (tVar 5) [5]) (tCons (tLc (iRng1 (tCons (tCB (rLenQ K) (tCons (tVar 0) tNil)) tNil)) (gName 5) (tTest (tOp (rIn K false) (tVar 5) (tVar 3))) (tVar 5) [5]) tNil))) (gName 4)) (tSeq (tFor (iRng1 (tCons (tCB (rLenQ K) (tCons (tVar 0) tNil)) tNil)) (gName 5) (tIfS (tTest (tOp (rEqD K) (tOp (rIxL K) (tVar 0) (tVar 5)) (tVar 4))) (tRet (tVar 5)) tNext)) (tSeq (tDrop (tBM K "list" rAppend (tVar 0) (tCons (tVar 4) tNil))) (tSeq (tDrop (tBM K "list" rAppend (tVar 1) (tCons (tCB (rMax K) (tCons (tOp rCat (tLst (tCons (tC (.int 0)) tNil)) (tLc (iList K (tOp rCat (tOp (rIxT K) (tVar 4) (tC (.int 0))) (tOp (rIxT K) (tVar 4) (tC (.int 1))))) (gName 5) tYes (tOp rAddI (tC (.int 1)) (tOp (rIxL K) (tVar 1) (tVar 5))) [5])) tNil)) tNil))) (tRet (tOp rSubI (tCB (rLenQ K) (tCons (tVar 0) tNil)) (tC (.int 1))))))))
theorem len_law_put {K : PySem.W.Frag} {vs : List V} {H : Hp} {Q : VK} {E : XK} (h : sp_law_put K vs H Q E) : vs.length = 4 := by
  obtain ⟨_, _, _, _, _, _, _, _, _, rfl, _⟩ := h; rfl
theorem FormsAt.snoc {Z : Addr → Prop} {H : Hp} {xs : List V} {G : List Pr} (f : FormsAt Z H xs G) {a : Addr} {g : Pr} (h : FormAt Z H a g) : FormsAt Z H (xs ++ [.ref a]) (G ++ [g]) := by
  refine ⟨by rw [List.length_append, List.length_append, f.1]; rfl, fun i g' z => ?_⟩
  by_cases hi : i < G.length
  · rw [List.getElem?_append_left hi] at z
    obtain ⟨b, h1, h2⟩ := f.2 i g' z
    exact ⟨b, by rw [List.getElem?_append_left (by rw [f.1]; exact hi)]; exact h1, h2⟩
  · have hi2 : i = G.length := by
      have := (List.getElem?_eq_some_iff.mp z).1
      rw [List.length_append, List.length_singleton] at this
      omega
    subst hi2
    rw [List.getElem?_append_right (Nat.le_refl _), Nat.sub_self] at z
    have e2 : g' = g := by injection z with z; exact z.symm
    subst e2
    exact ⟨a, by rw [← f.1, List.getElem?_append_right (Nat.le_refl _), Nat.sub_self]; rfl, h⟩
theorem in_kept {G : List Pr} {ls : List Int} (b : ∀ x ∈ ls, 0 ≤ x ∧ x < (G.length : Int)) : AscOf ls (kept G.length fun i => decide ((i : Int) ∈ ls)) := by
  refine ⟨(kept_asc _ _).1, fun k => ?_⟩
  rw [mem_kept]
  constructor
  · rintro ⟨i, rfl, _, h⟩; exact of_decide_eq_true h
  · intro h
    have := b k h
    exact ⟨k.toNat, by omega, by omega, by rw [show ((k.toNat : Nat) : Int) = k by omega]; exact decide_eq_true h⟩
theorem pure_law_put {K : PySem.W.Frag} (vs : List V) (H : Hp) (Q : VK) (E : XK) (h : sp_law_put K vs H Q E) : t_law_put K E { nx := fun _ H' => Q .non H', rt := Q } (start N_law_put vs) H := by
  obtain ⟨Z, m, hp, pl, pr, G, hts, ls, rs, rfl, M, hh, hlen, zm, zh, alive, hpl, hpr, bl, br, ne, big, q⟩ := h
  obtain ⟨xs, hm, fs⟩ := M
  have xl : xs.length = G.length := fs.1
  have A1 := in_kept bl
  have A2 := in_kept br
  have small : G.length < sizeLine := Nat.lt_of_le_of_lt big (by decide)
  unfold t_law_put
  repeat walk_at "mst"
  refine ⟨_, rfl, by omega, by omega, ?_⟩
  rw [Int.toNat_natCast, xl]
  refine lcR_rng (fun i => if decide ((i : Int) ∈ ls) = true then some (V.int i) else none) small (fun i hi => ?_) fun D1 H1 nD1 e1 hD1 => ?_
  · refine turn_flt fun H' e R r => ?_
    have hpl' := Evl.ex_l e hpl
    repeat walk_at "mst"
    exact r
  rw [kept_map] at hD1
  have hm1 := e1 _ _ hm
  repeat walk_at "mst"
  refine ⟨_, rfl, by omega, by omega, ?_⟩
  rw [Int.toNat_natCast, xl]
  refine lcR_rng (fun i => if decide ((i : Int) ∈ rs) = true then some (V.int i) else none) small (fun i hi => ?_) fun D2 H2 nD2 e2 hD2 => ?_
  · refine turn_flt fun H' e R r => ?_
    have hpr' := Evl.ex_l (e1.trans e) hpr
    repeat walk_at "mst"
    exact r
  rw [kept_map] at hD2
  generalize kept G.length (fun i => decide ((i : Int) ∈ ls)) = as at *
  generalize kept G.length (fun i => decide ((i : Int) ∈ rs)) = bs at *
  repeat walk_at "mst"
  refine ⟨by show 2 ≤ sizeLine; decide, fun f nf => ?_⟩
  have e3 := Evl.Ex.new (o := HO.tup [V.ref D1, V.ref D2]) nf
  have s3 : upd H2 f (HO.tup [V.ref D1, V.ref D2]) f = some (HO.tup [V.ref D1, V.ref D2]) := upd_same
  generalize upd H2 f (HO.tup [V.ref D1, V.ref D2]) = H3 at *
  have e03 := e1.trans (e2.trans e3)
  have hm3 := e03 _ _ hm
  have hh3 := e03 _ _ hh
  have fs3 := fs.ex e03
  have hD13 := e3 _ _ (e2 _ _ hD1)
  have hD23 := e3 _ _ hD2
  have nD20 : H D2 = none := by
    cases z : H D2 with
    | none => rfl
    | some o => rw [e1 _ _ z] at nD2; cases nD2
  have F3 : FormAt Z H3 f (as, bs) := ⟨D1, D2, s3, hD13, hD23, fun z => alive _ z nD1, fun z => alive _ z nD20⟩
  repeat walk_at "mst"
  refine ⟨_, rfl, by omega, by omega, ?_⟩
  rw [Int.toNat_natCast, xl]
  refine forK_range (fun i σ H' => H' = H3 ∧ (∀ j, j < i → G[j]? ≠ some (as, bs)) ∧ ∃ x : Option V, σ = [some (.ref m), some (.ref hp), some (.ref pl), some (.ref pr), some (.ref f), x]) ⟨rfl, fun j h => absurd h (Nat.not_lt_zero _), none, rfl⟩ ?_ ?_
  · rintro i σ H' hi ⟨rfl, no, x, rfl⟩
    obtain ⟨a, ha, fa⟩ := fs3.2 i G[i] (List.getElem?_eq_getElem hi)
    repeat walk_at "mst"
    refine k_ixL (k_sq hm3) (atI_nat ha) ?_
    repeat walk_at "mst"
    refine k_eqF fa F3 ?_
    repeat walk_at "mst"
    refine k_iteD (fun h => ?_) (fun h => ?_)
    · repeat walk_at "mst"
      have hk : G[i]? = some (as, bs) := by rw [List.getElem?_eq_getElem hi, h]
      exact q as bs i G hts H' A1 A2 (fun c o z _ _ => e03 c o z) ⟨xs, hm3, fs3⟩ hh3 hlen (Or.inl ⟨i, rfl, hk, rfl⟩) (Or.inl ⟨List.mem_of_getElem? hk, rfl⟩)
    · repeat walk_at "mst"
      refine ⟨rfl, fun j hj => ?_, _, rfl⟩
      rcases Nat.lt_or_ge j i with c | c
      · exact no j c
      · have : j = i := by omega
        subst this
        rw [List.getElem?_eq_getElem hi]
        exact fun z => h (Option.some.inj z)
  · rintro σ H' ⟨rfl, no, x, rfl⟩
    have nin : (as, bs) ∉ G := fun mm => by
      obtain ⟨j, hj⟩ := List.mem_iff_getElem?.mp mm
      exact no j (List.getElem?_eq_some_iff.mp hj).1 hj
    have la := (A1.asc bl).len
    have lb := (A2.asc br).len
    repeat walk_at "mst"
    · rw [xl]; exact small
    have b4 : ∀ c u, H' c = some u → c ≠ m → upd H' m (HO.lst (xs ++ [V.ref f])) c = some u := fun c u z y => (upd_ne y).trans z
    have s4 : upd H' m (HO.lst (xs ++ [V.ref f])) m = some (HO.lst (xs ++ [V.ref f])) := upd_same
    generalize upd H' m (HO.lst (xs ++ [V.ref f])) = H4 at *
    have nl : ∀ c ys, H c = none → H' c = some (HO.lst ys) → c ≠ m := fun c ys h1 _ z => by subst z; rw [h1] at hm; cases hm
    have hD14 := b4 _ _ hD13 (nl _ _ nD1 hD13)
    have hD24 := b4 _ _ hD23 (nl _ _ nD20 hD23)
    have s34 := b4 _ _ s3 (ne_of s3 hm3 (by intro z; cases z))
    have hh4 := b4 _ _ hh3 ne.symm
    repeat walk_at "mst"
    refine ⟨by show 1 ≤ sizeLine; decide, fun z nz => ?_⟩
    have e5 := Evl.Ex.new (o := HO.lst [V.int 0]) nz
    have s5 : upd H4 z (HO.lst [V.int 0]) z = some (HO.lst [V.int 0]) := upd_same
    generalize upd H4 z (HO.lst [V.int 0]) = H5 at *
    have s35 := e5 _ _ s34
    have hD15 := e5 _ _ hD14
    have hD25 := e5 _ _ hD24
    repeat walk_at "mst"
    refine k_rCat hD15 hD25 (by rw [List.length_map, List.length_map]; exact Nat.le_trans (show _ ≤ 2000 by omega) (by decide)) fun u nu => ?_
    rw [← List.map_append]
    have e6 := Evl.Ex.new (o := HO.lst ((as ++ bs).map V.int)) nu
    have s6 : upd H5 u (HO.lst ((as ++ bs).map V.int)) u = some (HO.lst ((as ++ bs).map V.int)) := upd_same
    generalize upd H5 u (HO.lst ((as ++ bs).map V.int)) = H6 at *
    have hh6 := e6 _ _ (e5 _ _ hh4)
    refine ⟨u, rfl, ⟨_, k_sq s6⟩, lcR_list (K := K) (onI (fun k => 1 + hat hts k)) (k_sq s6) (by rw [List.length_map, List.length_append]; exact Nat.lt_of_le_of_lt (show _ ≤ 2000 by omega) (by decide)) (fun x hx => ?_) fun D3 H7 nD3 e7 hD3 => ?_⟩
    · obtain ⟨k, hk, rfl⟩ := List.mem_map.mp hx
      have bk : 0 ≤ k ∧ k < G.length := by
        rcases List.mem_append.mp hk with h | h
        · exact (A1.asc bl).2 k h
        · exact (A2.asc br).2 k h
      refine turn_map fun H' e R r => ?_
      have hh' := e _ _ hh6
      repeat walk_at "mst"
      refine k_ixL (k_sq hh') (hat_at hlen bk.1 bk.2) ?_
      repeat walk_at "mst"
      exact r
    · rw [onI_map] at hD3
      have e57 := e6.trans e7
      have s57 := e57 _ _ s5
      have hh7 := e57 _ _ (e5 _ _ hh4)
      repeat walk_at "mst"
      refine k_rCat s57 hD3 (by rw [List.length_map, List.length_map, List.length_append]; exact Nat.le_trans (show _ ≤ 2001 by show 1 + _ ≤ 2001; omega) (by decide)) fun v nv => ?_
      have ev : ([V.int 0] : List V) ++ ((as ++ bs).map fun k => 1 + hat hts k).map V.int = (0 :: (as ++ bs).map fun k => 1 + hat hts k).map V.int := rfl
      rw [ev]
      have e8 := Evl.Ex.new (o := HO.lst ((0 :: (as ++ bs).map fun k => 1 + hat hts k).map V.int)) nv
      have s8 : upd H7 v (HO.lst ((0 :: (as ++ bs).map fun k => 1 + hat hts k).map V.int)) v = some (HO.lst ((0 :: (as ++ bs).map fun k => 1 + hat hts k).map V.int)) := upd_same
      generalize upd H7 v (HO.lst ((0 :: (as ++ bs).map fun k => 1 + hat hts k).map V.int)) = H8 at *
      have e48 := e5.trans (e57.trans e8)
      have hh8 := e48 _ _ hh4
      have hm8 := e48 _ _ s4
      repeat walk_at "mst"
      refine k_rMaxL (k_sq s8) (by simp) fun mx mm ml => ?_
      repeat walk_at "mst"
      · exact k_sizeL (by rw [hlen]; omega)
      have b9 : ∀ c u, H8 c = some u → c ≠ hp → upd H8 hp (HO.lst (hts.map V.int ++ [V.int mx])) c = some u := fun c u z y => (upd_ne y).trans z
      have s9 : upd H8 hp (HO.lst (hts.map V.int ++ [V.int mx])) hp = some (HO.lst ((hts ++ [mx]).map V.int)) := by rw [upd_same]; simp
      generalize upd H8 hp (HO.lst (hts.map V.int ++ [V.int mx])) = H9 at *
      have hm9 := b9 _ _ hm8 ne
      repeat walk_at "mst"
      have ei : (((xs ++ [V.ref f]).length : Nat) : Int) - 1 = (G.length : Int) := by rw [List.length_append, List.length_singleton, xl]; omega
      rw [ei]
      have all : ∀ c o, H' c = some o → c ≠ m → c ≠ hp → H9 c = some o := fun c o z h1 h2 => b9 _ _ (e48 _ _ (b4 _ _ z h1)) h2
      have nhp : ∀ c ys, H c = none → H' c = some (HO.lst ys) → c ≠ hp := fun c ys h1 _ z => by subst z; rw [h1] at hh; cases hh
      have tupn : ∀ c zs, H' c = some (HO.tup zs) → H9 c = some (HO.tup zs) := fun c zs z => all _ _ z (ne_of z hm3 (by intro y; cases y)) (ne_of z hh3 (by intro y; cases y))
      refine q as bs (G.length : Int) (G ++ [(as, bs)]) (hts ++ [mx]) H9 A1 A2 (fun c o z h1 h2 => all _ _ (e03 _ _ z) h1 h2) ⟨_, hm9, ?_⟩ s9 (by rw [List.length_append, List.length_append, hlen]; rfl) (Or.inr ⟨nin, rfl, rfl⟩) (Or.inr ⟨nin, mx, rfl, mm, ml⟩)
      exact (fs3.keep (fun c o z h => all _ _ z (fun y => h (y ▸ zm)) (fun y => h (y ▸ zh))) tupn).snoc (F3.keep (fun c o z h => all _ _ z (fun y => h (y ▸ zm)) (fun y => h (y ▸ zh))) tupn)
theorem use_put {K : PySem.W.Frag} {H : Hp} {Q : VK} {E : XK} {Z : Addr → Prop} {m hp pl pr : Addr} {G : List Pr} {hts ls rs : List Int} (M : ModAt Z H m G) (hh : H hp = some (.lst (hts.map V.int))) (hl : hts.length = G.length) (zm : Z m) (zh : Z hp) (alive : ∀ c, Z c → H c ≠ none)
    (h1 : SqL K H pl (ls.map V.int)) (h2 : SqL K H pr (rs.map V.int)) (b1 : ∀ x ∈ ls, 0 ≤ x ∧ x < (G.length : Int)) (b2 : ∀ x ∈ rs, 0 ≤ x ∧ x < (G.length : Int)) (ne : m ≠ hp) (big : G.length ≤ 1000)
    (q : ∀ (as bs : List Int) (i : Int) (G' : List Pr) (hts' : List Int) (H' : Hp), AscOf ls as → AscOf rs bs → (∀ c o, H c = some o → c ≠ m → c ≠ hp → H' c = some o) → ModAt Z H' m G' → H' hp = some (.lst (hts'.map V.int)) → hts'.length = G'.length → Put G (as, bs) i G' → HgtL G hts (as, bs) hts' → Q (.int i) H') :
    sp_law_put K ([.ref m, .ref hp, .ref pl, .ref pr] ++ []) H Q E := ⟨Z, m, hp, pl, pr, G, hts, ls, rs, rfl, M, hh, hl, zm, zh, alive, h1, h2, b1, b2, ne, big, q⟩
/-- what H knows, and two lists -/
def ZF (H : Hp) (m hp : Addr) : Addr → Prop := fun c => H c ≠ none ∨ c = m ∨ c = hp
def sp_law_family (K : PySem.W.Frag) : Sp := fun vs H Q _ => ∃ (a : Addr) (ns : List Int) (first count most : Int), vs = [.ref a, .int first, .int count, .int most] ∧ SqL K H a (ns.map V.int) ∧ 0 ≤ first ∧ (0 ≤ count ∧ count ≤ 100) ∧ 0 < most ∧
  ∀ (t m hp : Addr) (G : List Pr) (hts : List Int) (H' : Hp), Ex H H' → H' t = some (.tup [.ref m, .ref hp]) → H m = none → H hp = none → m ≠ hp → ModAt (ZF H m hp) H' m G → H' hp = some (.lst (hts.map V.int)) → hts.length = G.length → Forms G → HtOk G hts → (G.length : Int) ≤ count + 1 → Q (.ref t) H'
abbrev N_law_family : List Str := ["script", "first", "count", "most", "model", "heights", "k", "drawn"]
def t_law_family (K : PySem.W.Frag) (E : XK) : TS := (tSeq (tAsg (tLst (tCons (tTup (tCons (tLst tNil) (tCons (tLst tNil) tNil))) tNil)) (gName 4)) (tSeq (tAsg (tLst (tCons (tC (.int 0)) tNil)) (gName 5)) (tSeq (tFor (iRng1 (tCons (tVar 2) tNil)) (gName 6) (tSeq (tAsg (tCall (sp_law_drawn K) [] E0 (tCons (tVar 4) (tCons (tVar 5) (tCons (tCall (sp_law_digits K) [] E0 (tCons (tCall (sp_law_cell K) [] E0 (tCons (tVar 0) (tCons (tOp rAddI (tVar 1) (tVar 6)) tNil))) (tCons (tC (.int 12)) tNil))) (tCons (tVar 3) tNil))))) (gName 7)) (tDrop (tCall (sp_law_put K) [] E0 (tCons (tVar 4) (tCons (tVar 5) (tCons (tOp (rIxT K) (tVar 7) (tC (.int 0))) (tCons (tOp (rIxT K) (tVar 7) (tC (.int 1))) tNil)))))))) (tRet (tTup (tCons (tVar 4) (tCons (tVar 5) tNil)))))))
theorem len_law_family {K : PySem.W.Frag} {vs : List V} {H : Hp} {Q : VK} {E : XK} (h : sp_law_family K vs H Q E) : vs.length = 4 := by
  obtain ⟨_, _, _, _, _, rfl, _⟩ := h; rfl
theorem le_max (l : List Int) (f : Int → Int) (m : Int) (h : m ∈ (0 :: l.map fun k => 1 + f k)) (u : ∀ y ∈ (0 :: l.map fun k => 1 + f k), y ≤ m) (ne : l ≠ []) (nn : ∀ k ∈ l, 0 ≤ f k) : ∃ x, x ∈ l.map f ∧ (∀ y ∈ l.map f, y ≤ x) ∧ m = 1 + x := by
  have up : ∀ y ∈ l.map f, y ≤ m - 1 := fun y my => by
    obtain ⟨k, mk, rfl⟩ := List.mem_map.mp my
    have := u (1 + f k) (List.mem_cons_of_mem _ (List.mem_map.mpr ⟨k, mk, rfl⟩))
    omega
  rcases List.mem_cons.mp h with e | h
  · subst e
    cases l with
    | nil => exact absurd rfl ne
    | cons k l =>
      have h1 := up (f k) (by simp)
      have h2 := nn k List.mem_cons_self
      omega
  · obtain ⟨k, mk, e⟩ := List.mem_map.mp h
    exact ⟨f k, List.mem_map.mpr ⟨k, mk, rfl⟩, fun y my => by have := up y my; omega, by omega⟩
theorem ht_nn {G : List Pr} {hs : List Int} (o : HtOk G hs) (f : Forms G) : ∀ (n i : Nat), i < n → i < G.length → 0 ≤ hat hs i := by
  intro n
  induction n with
  | zero => intro i h; exact absurd h (Nat.not_lt_zero _)
  | succ n ih =>
    intro i hi hl
    rcases o i G[i] (List.getElem?_eq_getElem hl) with ⟨_, h⟩ | ⟨m, mm, _, h⟩
    · omega
    · obtain ⟨k, mk, e⟩ := List.mem_map.mp mm
      obtain ⟨a1, a2⟩ := f.asc i G[i] (List.getElem?_eq_getElem hl)
      have b := Asc.both a1 a2 k mk
      have := ih k.toNat (by omega) (by omega)
      rw [show ((k.toNat : Nat) : Int) = k by omega] at this
      omega
theorem ht_put {G G' : List Pr} {p : Pr} {i : Int} {hts hts' : List Int} (h : HgtL G hts p hts') (pt : Put G p i G') (o : HtOk G hts) (l : hts.length = G.length) (f : Forms G) (a : Asc G.length p.1) (b : Asc G.length p.2) : HtOk G' hts' := by
  rcases h with ⟨mem, rfl⟩ | ⟨nm, m, rfl, mm, ml⟩
  · rcases pt with ⟨_, _, _, rfl⟩ | ⟨n, _, _⟩
    · exact o
    · exact absurd mem n
  · rcases pt with ⟨k, _, hk, _⟩ | ⟨_, _, rfl⟩
    · exact absurd (List.mem_of_getElem? hk) nm
    · refine o.snoc l f a b ?_
      by_cases e : p.1 ++ p.2 = []
      · left
        refine ⟨e, ?_⟩
        rw [e] at mm
        simpa using mm
      · right
        exact le_max _ _ _ mm ml e fun k mk => by
          have bk := Asc.both a b k mk
          have := ht_nn o f (k.toNat + 1) k.toNat (Nat.lt_succ_self _) (by omega)
          rw [show ((k.toNat : Nat) : Int) = k by omega] at this
          exact this
theorem ht_zero {G : List Pr} {hs : List Int} (o : HtOk G hs) (f : Forms G) : hat hs 0 = 0 := by
  rcases o 0 _ f.zero with ⟨_, h⟩ | ⟨m, mm, _⟩
  · exact h
  · simp at mm
theorem pure_law_family {K : PySem.W.Frag} (vs : List V) (H : Hp) (Q : VK) (E : XK) (h : sp_law_family K vs H Q E) : t_law_family K E { nx := fun _ H' => Q .non H', rt := Q } (start N_law_family vs) H := by
  obtain ⟨a, ns, first, count, most, rfl, hS, f0, cn, m0, q⟩ := h
  unfold t_law_family
  repeat walk_at "mst"
  refine ⟨by decide, fun c1 n1 => ?_⟩
  have e2 := Evl.Ex.new (o := HO.lst []) n1
  have s2 : upd H c1 (HO.lst []) c1 = some (HO.lst []) := upd_same
  generalize upd H c1 (HO.lst []) = H2 at *
  repeat walk_at "mst"
  refine ⟨by decide, fun c2 n2 => ?_⟩
  have e3 := Evl.Ex.new (o := HO.lst []) n2
  have s3 : upd H2 c2 (HO.lst []) c2 = some (HO.lst []) := upd_same
  generalize upd H2 c2 (HO.lst []) = H3 at *
  repeat walk_at "mst"
  refine ⟨by show 2 ≤ sizeLine; decide, fun t0 n3 => ?_⟩
  have e4 := Evl.Ex.new (o := HO.tup [V.ref c1, V.ref c2]) n3
  have s4 : upd H3 t0 (HO.tup [V.ref c1, V.ref c2]) t0 = some (HO.tup [V.ref c1, V.ref c2]) := upd_same
  generalize upd H3 t0 (HO.tup [V.ref c1, V.ref c2]) = H4 at *
  repeat walk_at "mst"
  refine ⟨by show 1 ≤ sizeLine; decide, fun m n4 => ?_⟩
  have e5 := Evl.Ex.new (o := HO.lst [V.ref t0]) n4
  have s5 : upd H4 m (HO.lst [V.ref t0]) m = some (HO.lst [V.ref t0]) := upd_same
  generalize upd H4 m (HO.lst [V.ref t0]) = H5 at *
  repeat walk_at "mst"
  refine ⟨by show 1 ≤ sizeLine; decide, fun hp n5 => ?_⟩
  have e6 := Evl.Ex.new (o := HO.lst [V.int 0]) n5
  have s6 : upd H5 hp (HO.lst [V.int 0]) hp = some (HO.lst [V.int 0]) := upd_same
  generalize upd H5 hp (HO.lst [V.int 0]) = H6 at *
  have e04 : Ex H H4 := e2.trans (e3.trans e4)
  have e06 : Ex H H6 := e04.trans (e5.trans e6)
  have nm : H m = none := Evl.fresh_back e04 n4
  have nhp : H hp = none := Evl.fresh_back (e04.trans e5) n5
  have ne : m ≠ hp := ne_of_none s5 n5
  have f1 : ¬ ZF H m hp c1 := by
    rintro (h | h | h)
    · exact h n1
    · exact (ne_of_none (e4 _ _ (e3 _ _ s2)) n4) h
    · exact (ne_of_none (e5 _ _ (e4 _ _ (e3 _ _ s2))) n5) h
  have f2 : ¬ ZF H m hp c2 := by
    rintro (h | h | h)
    · exact h (Evl.fresh_back e2 n2)
    · exact (ne_of_none (e4 _ _ s3) n4) h
    · exact (ne_of_none (e5 _ _ (e4 _ _ s3)) n5) h
  have M6 : ModAt (ZF H m hp) H6 m [([], [])] := by
    refine ⟨_, e6 _ _ s5, rfl, fun i g z => ?_⟩
    cases i with
    | zero =>
      cases z
      exact ⟨t0, rfl, c1, c2, e6 _ _ (e5 _ _ s4), e6 _ _ (e5 _ _ (e4 _ _ (e3 _ _ s2))), e6 _ _ (e5 _ _ (e4 _ _ s3)), f1, f2⟩
    | succ i => simp at z
  have F0 : Forms [([], [])] := ⟨rfl, by simp, fun i g z => by
    cases i with
    | zero => cases z; exact ⟨⟨.nil, fun x m => nomatch m⟩, ⟨.nil, fun x m => nomatch m⟩⟩
    | succ i => simp at z⟩
  have O0 : HtOk [([], [])] [0] := fun i g z => by
    cases i with
    | zero => cases z; exact Or.inl ⟨rfl, rfl⟩
    | succ i => simp at z
  have L0 : ([0] : List Int).length = ([([], [])] : List Pr).length := rfl
  have B0 : ([([], [])] : List Pr).length ≤ 0 + 1 := Nat.le_refl _
  have s60 : H6 hp = some (.lst (([0] : List Int).map V.int)) := s6
  generalize ([([], [])] : List Pr) = G0 at *
  generalize ([0] : List Int) = h0 at *
  clear f1 f2 s2 s3 s4 s5 s6
  repeat walk_at "mst"
  refine ⟨_, rfl, by omega, by omega, forK_range (n := count.toNat) (fun i σ H' => ∃ (G : List Pr) (hts : List Int), Ex H H' ∧ ModAt (ZF H m hp) H' m G ∧ H' hp = some (.lst (hts.map V.int)) ∧ hts.length = G.length ∧ Forms G ∧ HtOk G hts ∧ G.length ≤ i + 1 ∧
    ∃ x6 x7 : Option V, σ = [some (.ref a), some (.int first), some (.int count), some (.int most), some (.ref m), some (.ref hp), x6, x7]) ⟨G0, h0, e06, M6, s60, L0, F0, O0, B0, _, _, rfl⟩ ?_ ?_⟩
  · rintro i σ H0 hi ⟨G, hts, e0, M, hh, hl, FG, O, few, x6, x7, rfl⟩
    have hs0 := Evl.ex_l e0 hS
    obtain ⟨xm, hm, fm⟩ := id M
    have alive : ∀ {H1 : Hp}, Ex H0 H1 → ∀ c, ZF H m hp c → H1 c ≠ none := fun e c z n => by
      rcases z with z | z | z
      · exact z (Evl.fresh_back (e0.trans e) n)
      · subst z; rw [e _ _ hm] at n; cases n
      · subst z; rw [e _ _ hh] at n; cases n
    repeat walk_at "mst"
    refine use_cell hs0 (by omega) fun ce => ?_
    repeat walk_at "mst"
    refine use_digits ⟨by decide, by decide⟩ fun pd ds H1 npd e1 hds dn db => ?_
    have hh1 := e1 _ _ hh
    repeat walk_at "mst"
    refine use_drawn (M.up e1) hh1 hl (ht_zero O FG) m0 (k_sq hds) (by omega) db FG (by omega) (alive e1) fun t p1 p2 ls rs H2 e2 ht hp1 hp2 zp1 zp2 bl br ll lr => ?_
    have e12 := e1.trans e2
    repeat walk_at "mst"
    refine use_put (M.up e12) (e2 _ _ hh1) hl (Or.inr (Or.inl rfl)) (Or.inr (Or.inr rfl)) (alive e12) (k_sq hp1) (k_sq hp2) bl br ne (by omega) fun as bs j G' hts' H3 A1 A2 k3 M3 hh3 hl3 pt hg => ?_
    repeat walk_at "mst"
    refine ⟨G', hts', fun c o z => k3 _ _ (e12 _ _ (e0 _ _ z)) (ne_of_none z nm) (ne_of_none z nhp), M3, hh3, hl3, FG.put pt (A1.asc bl) (A2.asc br), ht_put hg pt O hl FG (A1.asc bl) (A2.asc br), by have := pt.len; omega, _, _, rfl⟩
  · rintro σ H0 ⟨G, hts, e0, M, hh, hl, FG, O, few, x6, x7, rfl⟩
    repeat walk_at "mst"
    refine ⟨by show 2 ≤ sizeLine; decide, fun t nt => ?_⟩
    have e1 := Evl.Ex.new (o := HO.tup [V.ref m, V.ref hp]) nt
    exact q t m hp G hts _ (e0.trans e1) upd_same nm nhp ne (M.up e1) (e1 _ _ hh) hl FG O (by omega)
theorem use_family {K : PySem.W.Frag} {H : Hp} {Q : VK} {E : XK} {a : Addr} {ns : List Int} {first count most : Int} (hS : SqL K H a (ns.map V.int)) (f0 : 0 ≤ first) (cn : 0 ≤ count ∧ count ≤ 100) (m0 : 0 < most)
    (q : ∀ (t m hp : Addr) (G : List Pr) (hts : List Int) (H' : Hp), Ex H H' → H' t = some (.tup [.ref m, .ref hp]) → H m = none → H hp = none → m ≠ hp → ModAt (ZF H m hp) H' m G → H' hp = some (.lst (hts.map V.int)) → hts.length = G.length → Forms G → HtOk G hts → (G.length : Int) ≤ count + 1 → Q (.ref t) H') :
    sp_law_family K ([.ref a, .int first, .int count, .int most] ++ []) H Q E := ⟨a, ns, first, count, most, rfl, hS, f0, cn, m0, q⟩
def sp_law_count (K : PySem.W.Frag) : Sp := fun vs H Q _ => ∃ c : Int, vs = [.int c] ∧ ∀ n : Int, 1 ≤ n → n ≤ 23 → Q (.int n) H
abbrev N_law_count : List Str := ["cell", "k"]
def t_law_count (K : PySem.W.Frag) (E : XK) : TS := (tSeq (tAsg (tOp rModI (tCB rIntI (tCons (tVar 0) tNil)) (tC (.int 96))) (gName 1)) (tSeq (tIfS (tTest (tOp rEq (tOp rModI (tCB rIntI (tCons (tVar 1) tNil)) (tC (.int 8))) (tC (.int 7)))) (tRet (tOp rAddI (tC (.int 12)) (tOp rDivI (tVar 1) (tC (.int 8))))) tNext) (tRet (tOp rAddI (tC (.int 1)) (tOp rModI (tCB rIntI (tCons (tVar 1) tNil)) (tC (.int 12)))))))
theorem len_law_count {K : PySem.W.Frag} {vs : List V} {H : Hp} {Q : VK} {E : XK} (h : sp_law_count K vs H Q E) : vs.length = 1 := by
  obtain ⟨_, rfl, _⟩ := h; rfl
theorem pure_law_count {K : PySem.W.Frag} (vs : List V) (H : Hp) (Q : VK) (E : XK) (h : sp_law_count K vs H Q E) : t_law_count K E { nx := fun _ H' => Q .non H', rt := Q } (start N_law_count vs) H := by
  obtain ⟨c, rfl, q⟩ := h
  unfold t_law_count
  repeat walk_at "mst"
  refine k_iteD (fun _ => ?_) (fun _ => ?_)
  · repeat walk_at "mst"
    exact q _ (by omega) (by omega)
  · repeat walk_at "mst"
    exact q _ (by omega) (by omega)
theorem use_count {K : PySem.W.Frag} {H : Hp} {Q : VK} {E : XK} {c : Int} (q : ∀ n : Int, 1 ≤ n → n ≤ 23 → Q (.int n) H) : sp_law_count K ([.int c] ++ []) H Q E := ⟨c, rfl, q⟩
def sp_law_built (P : Program) (w : World) (K : PySem.W.Frag) : Sp := fun vs H Q _ => ∃ (Z : Addr → Prop) (F : Foot) (G : List Pr) (hs : List Int) (ts : List (Key × V)) (m : Addr), vs = [.ref F.y, .ref m] ∧ YardAt P w K H F [([], [])] hs ts ∧ ModAt Z H m G ∧ Forms G ∧
  (∀ c, ¬ Z c → Off F c) ∧ Off F m ∧ G.length ≤ 60 ∧ ∀ np H' hs', H np = none → Gr F H H' → YardAt P w K H' F G hs' ts → H' np = some (.lst ((nums G.length).map V.int)) → Q (.ref np) H'
abbrev N_law_built : List Str := ["yard", "model", "numbers", "form", "k"]
def t_law_built (P : Program) (w : World) (K : PySem.W.Frag) (E : XK) : TS := (tSeq (tAsg (tLst (tCons (tC (.int 0)) tNil)) (gName 2)) (tSeq (tFor (iList K (tSl (rSlL K) (tVar 1) (tPart (tC (.int 1))) tNoPart)) (gName 3) (tDrop (tBM K "list" rAppend (tVar 2) (tCons (tMeth (He.ga K "Yard") "game" (sp_Yard_m_game P w K) [] E0 (tVar 0) (tCons (tLc (iList K (tOp (rIxT K) (tVar 3) (tC (.int 0)))) (gName 4) tYes (tOp (rIxL K) (tVar 2) (tVar 4)) [4]) (tCons (tLc (iList K (tOp (rIxT K) (tVar 3) (tC (.int 1)))) (gName 4) tYes (tOp (rIxL K) (tVar 2) (tVar 4)) [4]) tNil))) tNil)))) (tRet (tVar 2))))
theorem len_law_built {P : Program} {w : World} {K : PySem.W.Frag} {vs : List V} {H : Hp} {Q : VK} {E : XK} (h : sp_law_built P w K vs H Q E) : vs.length = 2 := by
  obtain ⟨_, _, _, _, _, _, rfl, _⟩ := h; rfl
theorem cut_tail (xs : List V) : cutV xs (some 1) none = xs.drop 1 := by
  unfold cutV
  rw [HT.sIx_none, show (some (1 : Int)) = some ((1 : Nat) : Int) from rfl, HT.sIx_nat]
  rcases xs with _ | ⟨x, xs⟩
  · rfl
  · have e : min 1 (x :: xs).length = 1 := by rw [List.length_cons]; omega
    rw [e]
    exact List.take_of_length_le (by rw [List.length_drop]; exact Nat.le_refl _)
theorem take_new {G : List Pr} (n : G.Nodup) {i : Nat} {g : Pr} (h : G[i]? = some g) : g ∉ G.take i := by
  intro m
  obtain ⟨j, hj⟩ := List.mem_iff_getElem?.mp m
  rw [List.getElem?_take] at hj
  split at hj
  · rename_i lt
    have := nodup_at n hj h
    omega
  · cases hj
theorem pure_law_built {P : Program} {w : World} {K : PySem.W.Frag} (vs : List V) (H : Hp) (Q : VK) (E : XK) (h : sp_law_built P w K vs H Q E) : t_law_built P w K E { nx := fun _ H' => Q .non H', rt := Q } (start N_law_built vs) H := by
  obtain ⟨Z, F, G, hs, ts, m, rfl, Y, M, FG, zoff, om, few, q⟩ := h
  obtain ⟨xs, hm, fs⟩ := M
  have xl : xs.length = G.length := fs.1
  have g0 : 0 < G.length := (List.getElem?_eq_some_iff.mp FG.zero).1
  unfold t_law_built
  repeat walk_at "mst"
  refine ⟨by show 1 ≤ sizeLine; decide, fun np nnp => ?_⟩
  have e1 := Evl.Ex.new (o := HO.lst [V.int 0]) nnp
  have s1 : upd H np (HO.lst [V.int 0]) np = some (HO.lst [V.int 0]) := upd_same
  generalize upd H np (HO.lst [V.int 0]) = H1 at *
  have hm1 := e1 _ _ hm
  repeat walk_at "mst"
  refine k_slL (k_sq hm1) fun u nu => ?_
  rw [cut_tail]
  have e2 := Evl.Ex.new (o := HO.lst (xs.drop 1)) nu
  have s2 : upd H1 u (HO.lst (xs.drop 1)) u = some (HO.lst (xs.drop 1)) := upd_same
  generalize upd H1 u (HO.lst (xs.drop 1)) = H2 at *
  have e02 := e1.trans e2
  have fs2 := fs.ex e02
  have onp := Y.fresh nnp
  have ou := Y.fresh (Evl.fresh_back e1 nu)
  have dun : u ≠ np := (ne_of_none s1 nu).symm
  have t1 : G.take 1 = [([], [])] := by
    have z := FG.zero
    rcases G with _ | ⟨g, G⟩
    · simp at z
    · simp at z; rw [z]; rfl
  refine ⟨u, rfl, ⟨_, k_sq s2⟩, forK_list (xs := xs.drop 1) (fun i σ H' => ∃ (hs' : List Int) (x3 : Option V), YardAt P w K H' F (G.take (i + 1)) hs' ts ∧ H' np = some (.lst ((nums (i + 1)).map V.int)) ∧ (∀ c o, H2 c = some o → c ≠ np → Off F c → H' c = some o) ∧ σ = [some (.ref F.y), some (.ref m), some (.ref np), x3, none])
    ⟨hs, none, by rw [t1]; exact Y.ex e02, e2 _ _ s1, fun c o z _ _ => z, rfl⟩ ?_ ?_ ?_⟩
  · rintro i σ H' _ ⟨_, _, _, _, k, _⟩
    exact k_sq (k _ _ s2 dun ou)
  · rintro i x σ H0 hx ⟨hs', x3, Y0, hn, k, rfl⟩
    have hi : i + 1 < G.length := by
      have := (List.getElem?_eq_some_iff.mp hx).1
      rw [List.length_drop, xl] at this
      omega
    have hx' : xs[i + 1]? = some x := by rw [List.getElem?_drop, Nat.add_comm] at hx; exact hx
    have hg := List.getElem?_eq_getElem hi
    obtain ⟨a, ha, c, d, hf, hc, hd, zc, zd⟩ := fs2.2 (i + 1) _ hg
    rw [hx'] at ha
    injection ha with ha
    subst ha
    generalize G[i + 1] = g at *
    obtain ⟨as1, as2⟩ := FG.asc _ g hg
    have l1 := as1.len
    have l2 := as2.len
    have ncn : ∀ c' ys, H2 c' = some (HO.lst ys) → ¬ Z c' → c' ≠ np → H0 c' = some (HO.lst ys) := fun c' ys z1 z2 z3 => k _ _ z1 z3 (zoff _ z2)
    have hfH : ∃ c0 d0, H a = some (.tup [.ref c0, .ref d0]) ∧ H c0 = some (.lst (g.1.map V.int)) ∧ H d0 = some (.lst (g.2.map V.int)) := by
      obtain ⟨a', ha', c0, d0, h1, h2, h3, _⟩ := fs.2 (i + 1) g hg
      rw [hx'] at ha'
      injection ha' with ha'
      injection ha' with ha'
      subst ha'
      exact ⟨c0, d0, h1, h2, h3⟩
    obtain ⟨c0, d0, h1, h2, h3⟩ := hfH
    have ecd : c = c0 ∧ d = d0 := by
      have := (e02 _ _ h1).symm.trans hf
      injection this with this
      injection this with this
      injection this with a1 a2
      injection a2 with a2 _
      injection a1 with a1
      injection a2 with a2
      exact ⟨a1.symm, a2.symm⟩
    obtain ⟨rfl, rfl⟩ := ecd
    have hc0 := ncn c _ hc zc (ne_of_none h2 nnp)
    have hd0 := ncn d _ hd zd (ne_of_none h3 nnp)
    have hf0 := k _ _ hf (ne_of_none h1 nnp) (Y.tup h1)
    repeat walk_at "mst"
    refine Y0.meth (by decide +kernel) (by decide +kernel) (by decide +kernel) (by decide +kernel) (by decide +kernel) ?_
    repeat walk_at "mst"
    refine ⟨c, rfl, ⟨_, k_sq hc0⟩, lcR_list (K := K) (onI fun k => k) (k_sq hc0) (by rw [List.length_map]; exact Nat.lt_of_le_of_lt (show _ ≤ 100 by omega) (by decide)) (fun x hx => ?_) fun D1 H3 nD1 e3 hD1 => ?_⟩
    · obtain ⟨k', hk, rfl⟩ := List.mem_map.mp hx
      refine turn_map fun H'' e R r => ?_
      have hn3 := e _ _ hn
      repeat walk_at "mst"
      exact k_ixL (k_sq hn3) (nums_at (as1.2 k' hk).1 (as1.2 k' hk).2) r
    rw [onI_id] at hD1
    have hn3 := e3 _ _ hn
    have hf3 := e3 _ _ hf0
    have hd3 := e3 _ _ hd0
    repeat walk_at "mst"
    refine ⟨d, rfl, ⟨_, k_sq hd3⟩, lcR_list (K := K) (onI fun k => k) (k_sq hd3) (by rw [List.length_map]; exact Nat.lt_of_le_of_lt (show _ ≤ 100 by omega) (by decide)) (fun x hx => ?_) fun D2 H4 nD2 e4 hD2 => ?_⟩
    · obtain ⟨k', hk, rfl⟩ := List.mem_map.mp hx
      refine turn_map fun H'' e R r => ?_
      have hn4 := e _ _ hn3
      repeat walk_at "mst"
      exact k_ixL (k_sq hn4) (nums_at (as2.2 k' hk).1 (as2.2 k' hk).2) r
    rw [onI_id] at hD2
    have hD14 := e4 _ _ hD1
    have e24 := e3.trans e4
    have Y4 := Y0.ex e24
    have tl : (G.take (i + 1)).length = i + 1 := by rw [List.length_take]; omega
    repeat walk_at "mst"
    refine use_game Y4 (k_sq hD14) (k_sq hD2) (fun x mx => by rw [tl]; exact as1.2 x mx) (fun x mx => by rw [tl]; exact as2.2 x mx) ⟨by omega, by omega⟩ (by omega) fun as bs j G' hs2 H9 A1 A2 gr9 Y9 pt hg9 => ?_
    have ea : as = g.1 := asc_ext A1.1 as1.1 fun k => A1.2 k
    have eb : bs = g.2 := asc_ext A2.1 as2.1 fun k => A2.2 k
    subst ea; subst eb
    have hn9 := gr9 _ _ (e24 _ _ hn) onp
    rcases pt with ⟨k', _, hk', _⟩ | ⟨_, rfl, rfl⟩
    · exact absurd (List.mem_of_getElem? hk') (take_new FG.one hg)
    repeat walk_at "mst"
    · rw [List.length_map, nums_len]; exact Nat.lt_of_le_of_lt (show _ ≤ 100 by omega) (by decide)
    have kA : ∀ c o, H9 c = some o → c ≠ np → upd H9 np (HO.lst ((nums (i + 1)).map V.int ++ [V.int ((G.take (i + 1)).length : Nat)])) c = some o := fun c o z y => (upd_ne y).trans z
    have sA : upd H9 np (HO.lst ((nums (i + 1)).map V.int ++ [V.int ((G.take (i + 1)).length : Nat)])) np = some (HO.lst ((nums (i + 1 + 1)).map V.int)) := by
      rw [upd_same, tl, nums_succ (i + 1), List.map_append]
      rfl
    generalize upd H9 np (HO.lst ((nums (i + 1)).map V.int ++ [V.int ((G.take (i + 1)).length : Nat)])) = HA at *
    refine ⟨hs2, _, ?_, sA, fun c o z h1 h2 => kA _ _ (gr9 _ _ (e24 _ _ (k _ _ z h1 h2)) h2) h1, rfl⟩
    have eT : G.take (i + 1) ++ [(g.1, g.2)] = G.take (i + 1 + 1) := by
      rw [List.take_add_one (l := G) (i := i + 1), hg]
      rfl
    rw [← eT]
    exact Y9.but hn9 onp kA
  · rintro σ H0 ⟨hs', x3, Y0, hn, k, rfl⟩
    repeat walk_at "mst"
    have el : (xs.drop 1).length + 1 = G.length := by rw [List.length_drop, xl]; omega
    rw [el] at Y0 hn
    rw [List.take_of_length_le (Nat.le_refl _)] at Y0
    exact q np H0 hs' nnp (fun c o z f => k _ _ (e02 _ _ z) (ne_of_none z nnp) f) Y0 hn
theorem use_built {P : Program} {w : World} {K : PySem.W.Frag} {H : Hp} {Q : VK} {E : XK} {Z : Addr → Prop} {F : Foot} {G : List Pr} {hs : List Int} {ts : List (Key × V)} {m : Addr} (Y : YardAt P w K H F [([], [])] hs ts) (M : ModAt Z H m G) (FG : Forms G) (zoff : ∀ c, ¬ Z c → Off F c) (om : Off F m) (few : G.length ≤ 60)
    (q : ∀ np H' hs', H np = none → Gr F H H' → YardAt P w K H' F G hs' ts → H' np = some (.lst ((nums G.length).map V.int)) → Q (.ref np) H') : sp_law_built P w K (.ref F.y :: [.ref m] ++ []) H Q E := ⟨Z, F, G, hs, ts, m, rfl, Y, M, FG, zoff, om, few, q⟩
def sp_law_followers (K : PySem.W.Frag) : Sp := fun vs H Q _ => ∃ (Z : Addr → Prop) (G : List Pr) (m : Addr) (k : Nat), vs = [.ref m, .int k] ∧ ModAt Z H m G ∧ Forms G ∧ k < G.length ∧ G.length ≤ 100 ∧
  ∀ (p : Addr) (rs : List Int) (H' : Hp), H p = none → Ex H H' → H' p = some (.lst (rs.map V.int)) → rs.Pairwise (· < ·) → (∀ j, j ∈ rs ↔ Rch G (dkey []) k j) → Q (.ref p) H'
abbrev N_law_followers : List Str := ["model", "at", "found", "form", "k", "option"]
def t_law_followers (K : PySem.W.Frag) (E : XK) : TS := (tSeq (tAsg (tLc (iList K (tVar 0)) (gName 3) tYes (tC (.bl false)) [3]) (gName 2)) (tSeq (tAsg (tC (.bl true)) (gSub (tVar 2) (tVar 1) L2.rSetL)) (tSeq (tFor (iRng3 (tCons (tVar 1) (tCons (tUn rNegI (tC (.int 1))) (tCons (tUn rNegI (tC (.int 1))) tNil)))) (gName 4) (tIfS (tB (tOp (rIxL K) (tVar 2) (tVar 4))) (tFor (iList K (tOp rCat (tOp (rIxT K) (tOp (rIxL K) (tVar 0) (tVar 4)) (tC (.int 0))) (tOp (rIxT K) (tOp (rIxL K) (tVar 0) (tVar 4)) (tC (.int 1))))) (gName 5) (tAsg (tC (.bl true)) (gSub (tVar 2) (tVar 5) L2.rSetL))) tNext)) (tRet (tLc (iRng1 (tCons (tOp rAddI (tVar 1) (tC (.int 1))) tNil)) (gName 4) (tB (tOp (rIxL K) (tVar 2) (tVar 4))) (tVar 4) [4])))))
theorem len_law_followers {K : PySem.W.Frag} {vs : List V} {H : Hp} {Q : VK} {E : XK} (h : sp_law_followers K vs H Q E) : vs.length = 2 := by
  obtain ⟨_, _, _, _, rfl, _⟩ := h; rfl
/-- the j-th mark -/
def mrk (bs : List Bool) (j : Nat) : Bool := bs.getD j false
theorem mk_set {bs : List Bool} {i j : Nat} (h : i < bs.length) : mrk (bs.set i true) j = (decide (j = i) || mrk bs j) := by
  unfold mrk
  rw [List.getD_eq_getElem?_getD, List.getElem?_set, List.getD_eq_getElem?_getD]
  by_cases e : i = j
  · subst e; rw [if_pos rfl, if_pos h]; simp
  · rw [if_neg e]; simp [Ne.symm e]
theorem mk_at {bs : List Bool} {j : Int} (h0 : 0 ≤ j) (h : j < bs.length) : atI (bs.map V.bl) j = some (V.bl (mrk bs j.toNat)) := by
  have e : ((j.toNat : Nat) : Int) = j := by omega
  have z : atI (bs.map V.bl) ((j.toNat : Nat) : Int) = some (V.bl (mrk bs j.toNat)) := atI_nat (by
    unfold mrk
    rw [List.getElem?_map, List.getD_eq_getElem?_getD, List.getElem?_eq_getElem (by omega)]; rfl)
  rw [e] at z
  exact z
theorem ix_nat {n : Nat} {j : Int} (h0 : 0 ≤ j) (h : j < n) : ixN n j = some j.toNat := by
  unfold ixN
  rw [if_pos h0, if_pos (by omega)]
/-- the marks, when the games from c on are done -/
structure Mks (G : List Pr) (k c : Nat) (bs : List Bool) : Prop where
  len : bs.length = G.length
  root : mrk bs k = true
  ok : ∀ j, mrk bs j = true → Rch G (dkey []) k j
  cl : ∀ i, c ≤ i → mrk bs i = true → ∀ g, G[i]? = some g → ∀ j ∈ g.1 ++ g.2, mrk bs j.toNat = true
theorem Mks.more {G : List Pr} {k c i j : Nat} {bs : List Bool} {g : Pr} (x : Mks G k c bs) (f : Forms G) (hi : mrk bs i = true) (hg : G[i]? = some g) (hj : (j : Int) ∈ g.1 ++ g.2) (ic : i < c) : Mks G k c (bs.set j true) := by
  obtain ⟨a1, a2⟩ := f.asc i g hg
  have b := Asc.both a1 a2 _ hj
  have gi := (List.getElem?_eq_some_iff.mp hg).1
  have jl : j < bs.length := by rw [x.len]; omega
  refine ⟨by rw [List.length_set, x.len], by rw [mk_set jl, x.root, Bool.or_true], fun y h => ?_, fun y hy h g' hg' z mz => ?_⟩
  · rw [mk_set jl, Bool.or_eq_true, decide_eq_true_eq] at h
    rcases h with rfl | h
    · exact .step (x.ok i hi) (by rw [Int.toNat_natCast]; exact hg) hj rfl
    · exact x.ok y h
  · rw [mk_set jl, Bool.or_eq_true, decide_eq_true_eq] at h
    rw [mk_set jl]
    rcases h with rfl | h
    · omega
    · rw [x.cl y hy h g' hg' z mz, Bool.or_true]
theorem Mks.all {G : List Pr} {k : Nat} {bs : List Bool} (x : Mks G k 0 bs) (f : Forms G) (hk : k < G.length) : ∀ j : Int, Rch G (dkey []) k j → mrk bs j.toNat = true := fun j r => by
  induction r with
  | root _ => rw [Int.toNat_natCast]; exact x.root
  | @step i j g r hg m _ ih => exact x.cl i.toNat (Nat.zero_le _) ih g hg j m
theorem pure_law_followers {K : PySem.W.Frag} (vs : List V) (H : Hp) (Q : VK) (E : XK) (h : sp_law_followers K vs H Q E) : t_law_followers K E { nx := fun _ H' => Q .non H', rt := Q } (start N_law_followers vs) H := by
  obtain ⟨Z, G, m, k, rfl, M, FG, hk, few, q⟩ := h
  obtain ⟨xs, hm, fs⟩ := M
  have xl : xs.length = G.length := fs.1
  unfold t_law_followers
  repeat walk_at "mst"
  refine ⟨m, rfl, ⟨_, k_sq hm⟩, lcR_list (K := K) (fun _ => some (V.bl false)) (k_sq hm) (Nat.lt_of_le_of_lt (show _ ≤ 100 by omega) (by decide)) (fun x hx => ?_) fun D H1 nD e1 hD => ?_⟩
  · refine turn_map fun H'' e R r => ?_
    repeat walk_at "mst"
    exact r
  have eD : xs.filterMap (fun _ => some (V.bl false)) = (List.replicate G.length false).map V.bl := by
    rw [← xl, List.map_replicate]
    clear hm fs xl hD
    induction xs with
    | nil => rfl
    | cons x xs ih => rw [List.filterMap_cons, List.length_cons, List.replicate_succ, ih]
  rw [eD] at hD
  have rl : ((List.replicate G.length false).map V.bl).length = G.length := by rw [List.length_map, List.length_replicate]
  repeat walk_at "mst"
  refine ⟨D, _, _, k, rfl, rfl, hD, by rw [rl]; exact ix_nat (by omega) (by omega), ?_⟩
  have e2 : Ex H (upd H1 D (HO.lst (((List.replicate G.length false).map V.bl).set k (V.bl true)))) := Evl.Ex.mut e1 nD
  have s2 : upd H1 D (HO.lst (((List.replicate G.length false).map V.bl).set k (V.bl true))) D = some (HO.lst (((List.replicate G.length false).set k true).map V.bl)) := by rw [upd_same, List.map_set]
  generalize upd H1 D (HO.lst (((List.replicate G.length false).map V.bl).set k (V.bl true))) = H2 at *
  have kl : k < (List.replicate G.length false).length := by rw [List.length_replicate]; exact hk
  have no : ∀ j, mrk (List.replicate G.length false) j = false := fun j => by
    unfold mrk
    rw [List.getD_eq_getElem?_getD, List.getElem?_replicate]
    split <;> rfl
  have M0 : Mks G k (k + 1) ((List.replicate G.length false).set k true) := by
    refine ⟨by rw [List.length_set, List.length_replicate], by rw [mk_set kl]; simp, fun j h => ?_, fun i hi h => ?_⟩
    · rw [mk_set kl, no, Bool.or_false, decide_eq_true_eq] at h
      subst h
      exact .root rfl
    · rw [mk_set kl, no, Bool.or_false, decide_eq_true_eq] at h
      omega
  repeat walk_at "mst"
  refine ⟨_, _, _, _, rfl, RgC.neg (by omega) (by omega) (by decide) (by decide), for_rangeC (lo := (k : Int)) (c := -1) (fun i σ H' => ∃ (bs : List Bool) (x4 x5 : Option V), Mks G k (k + 1 - i) bs ∧ Ex H H' ∧ H' D = some (.lst (bs.map V.bl)) ∧ σ = [some (.ref m), some (.int k), some (.ref D), none, x4, x5]) ⟨_, none, none, M0, e2, s2, rfl⟩ ?_ ?_⟩
  · rintro i σ H3 hi ⟨bs, x4, x5, MK, e3, h3, rfl⟩
    have hi2 : i ≤ k := by omega
    obtain ⟨c, hc⟩ : ∃ c : Nat, k - i = c := ⟨_, rfl⟩
    have ec : (k : Int) + (i : Nat) * (-1) = (c : Int) := by omega
    rw [ec]
    have ec1 : k + 1 - i = c + 1 := by omega
    have ec2 : k + 1 - (i + 1) = c := by omega
    rw [ec1] at MK
    rw [ec2]
    have cG : c < G.length := by omega
    have hg := List.getElem?_eq_getElem cG
    generalize G[c] = g at *
    obtain ⟨a, ha, p1, p2, hf, hp1, hp2, _, _⟩ := (fs.ex e3).2 c g hg
    obtain ⟨as1, as2⟩ := FG.asc c g hg
    have l1 := as1.len
    have l2 := as2.len
    have hm3 := e3 _ _ hm
    repeat walk_at "mst"
    refine k_ixL (k_sq h3) (mk_at (by omega) (by rw [MK.len]; omega)) ?_
    rw [Int.toNat_natCast]
    repeat walk_at "mst"
    refine k_iteB (fun hb => ?_) (fun hb => ?_)
    · repeat walk_at "mst"
      refine k_ixL (k_sq hm3) (atI_nat ha) ?_
      repeat walk_at "mst"
      refine k_ixL (k_sq hm3) (atI_nat ha) ?_
      repeat walk_at "mst"
      refine k_rCat hp1 hp2 (by rw [List.length_map, List.length_map]; exact Nat.le_trans (show _ ≤ 2000 by omega) (by decide)) fun u nu => ?_
      rw [← List.map_append]
      have e4 := Evl.Ex.new (o := HO.lst ((g.1 ++ g.2).map V.int)) nu
      have s4 : upd H3 u (HO.lst ((g.1 ++ g.2).map V.int)) u = some (HO.lst ((g.1 ++ g.2).map V.int)) := upd_same
      generalize upd H3 u (HO.lst ((g.1 ++ g.2).map V.int)) = H4 at *
      have duD : u ≠ D := (ne_of_none h3 nu).symm
      refine ⟨u, rfl, ⟨_, k_sq s4⟩, forK_list (xs := (g.1 ++ g.2).map V.int) (fun n σ' H' => ∃ (bs : List Bool) (x5 : Option V), Mks G k (c + 1) bs ∧ mrk bs c = true ∧ (∀ j ∈ (g.1 ++ g.2).take n, mrk bs j.toNat = true) ∧ Ex H H' ∧ H' u = some (.lst ((g.1 ++ g.2).map V.int)) ∧ H' D = some (.lst (bs.map V.bl)) ∧ σ' = [some (.ref m), some (.int k), some (.ref D), none, some (.int c), x5])
        ⟨bs, x5, MK, hb, fun j m => (nomatch m), e3.trans e4, s4, e4 _ _ h3, rfl⟩ ?_ ?_ ?_⟩
      · rintro n σ' H' _ ⟨_, _, _, _, _, _, h, _⟩; exact k_sq h
      · rintro n x σ' H5 hx ⟨bs', y5, MK', hb', pre, e5, hu5, h5, rfl⟩
        obtain ⟨j, hj, rfl⟩ := get_int hx
        have mj := List.mem_of_getElem? hj
        have bj := Asc.both as1 as2 j mj
        obtain ⟨jn, rfl⟩ : ∃ n : Nat, j = n := ⟨j.toNat, by omega⟩
        have jl : jn < bs'.length := by rw [MK'.len]; omega
        repeat walk_at "mst"
        refine ⟨D, _, _, jn, rfl, rfl, h5, by rw [List.length_map]; exact ix_nat (by omega) (by omega), ?_⟩
        have e6 : Ex H (upd H5 D (HO.lst ((bs'.map V.bl).set jn (V.bl true)))) := Evl.Ex.mut e5 nD
        have s6 : upd H5 D (HO.lst ((bs'.map V.bl).set jn (V.bl true))) D = some (HO.lst ((bs'.set jn true).map V.bl)) := by rw [upd_same, List.map_set]
        have u6 : upd H5 D (HO.lst ((bs'.map V.bl).set jn (V.bl true))) u = some (.lst ((g.1 ++ g.2).map V.int)) := by rw [upd_ne duD]; exact hu5
        generalize upd H5 D (HO.lst ((bs'.map V.bl).set jn (V.bl true))) = H6 at *
        repeat walk_at "mst"
        refine ⟨bs'.set jn true, _, MK'.more FG hb' hg mj (Nat.lt_succ_self c), by rw [mk_set jl, hb', Bool.or_true], fun y my => ?_, e6, u6, s6, rfl⟩
        rw [mk_set jl]
        rw [List.take_add_one, hj] at my
        rcases List.mem_append.mp my with my | my
        · rw [pre y my, Bool.or_true]
        · have : y = (jn : Int) := by simpa using my
          rw [this, Int.toNat_natCast]; simp
      · rintro σ' H5 ⟨bs', y5, MK', hb', pre, e5, hu5, h5, rfl⟩
        refine ⟨bs', _, _, ⟨MK'.len, MK'.root, MK'.ok, fun y hy h g' hg' j mj => ?_⟩, e5, h5, rfl⟩
        rcases Nat.lt_or_ge c y with lt | ge
        · exact MK'.cl y lt h g' hg' j mj
        · have : y = c := by omega
          subst this
          rw [hg] at hg'
          injection hg' with hg'
          subst hg'
          exact pre j (by rw [List.length_map, List.take_of_length_le (Nat.le_refl _)]; exact mj)
    · repeat walk_at "mst"
      refine ⟨bs, _, _, ⟨MK.len, MK.root, MK.ok, fun y hy h g' hg' j mj => ?_⟩, e3, h3, rfl⟩
      rcases Nat.lt_or_ge c y with lt | ge
      · exact MK.cl y lt h g' hg' j mj
      · have : y = c := by omega
        subst this
        rw [hb] at h; cases h
  · rintro σ H3 ⟨bs, x4, x5, MK, e3, h3, rfl⟩
    have e0 : k + 1 - ((k : Int) - -1).toNat = 0 := by omega
    rw [e0] at MK
    repeat walk_at "mst"
    refine ⟨_, rfl, by omega, by omega, lcR_rng (n := k + 1) (fun i => if mrk bs i = true then some (V.int i) else none) (Nat.lt_of_le_of_lt (show _ ≤ 101 by omega) (by decide)) (fun i hi => ?_) fun p H4 np e4 hp => ?_⟩
    · refine turn_flt fun H' e R r => ?_
      have h' := e _ _ h3
      repeat walk_at "mst"
      refine k_ixL (k_sq h') (mk_at (by omega) (by rw [MK.len]; omega)) ?_
      rw [Int.toNat_natCast]
      repeat walk_at "mst"
      exact r
    · rw [kept_map] at hp
      refine q p _ H4 (Evl.fresh_back e3 np) (e3.trans e4) hp (kept_asc _ _).1 fun j => ?_
      rw [mem_kept]
      constructor
      · rintro ⟨i, rfl, _, h⟩; exact MK.ok i h
      · intro r
        have b := r.bound FG ⟨by omega, by omega⟩
        exact ⟨j.toNat, by omega, by omega, MK.all FG hk j r⟩
theorem use_lfollowers {K : PySem.W.Frag} {H : Hp} {Q : VK} {E : XK} {Z : Addr → Prop} {G : List Pr} {m : Addr} {k : Nat} (M : ModAt Z H m G) (F : Forms G) (hk : k < G.length) (few : G.length ≤ 100)
    (q : ∀ (p : Addr) (rs : List Int) (H' : Hp), H p = none → Ex H H' → H' p = some (.lst (rs.map V.int)) → rs.Pairwise (· < ·) → (∀ j, j ∈ rs ↔ Rch G (dkey []) k j) → Q (.ref p) H') : sp_law_followers K ([.ref m, .int (k : Int)] ++ []) H Q E := ⟨Z, G, m, k, rfl, M, F, hk, few, q⟩
def sp_Yard_m_reached (P : Program) (w : World) (K : PySem.W.Frag) : Sp := fun vs H Q _ => ∃ (F : Foot) (G : List Pr) (hs : List Int) (ts : List (Key × V)) (k : Int) (dn : Addr) (kvs : List (Key × V)), vs = [.ref F.y, .int k, .ref dn] ∧ YardAt P w K H F G hs ts ∧ 0 ≤ k ∧ k < G.length ∧ G.length ≤ 900 ∧ H dn = some (.dK kvs) ∧
  ∀ (p : Addr) (rs : List Int) (H' : Hp), H p = none → Ex H H' → H' p = some (.lst (rs.map V.int)) → rs.Pairwise (· < ·) → (∀ j, j ∈ rs ↔ Rch G (dkey kvs) k j) → Q (.ref p) H'
abbrev N_Yard_m_reached : List Str := ["self", "game", "done", "seen", "waiting", "follower", "option"]
def t_Yard_m_reached (P : Program) (w : World) (K : PySem.W.Frag) (E : XK) : TS := (tSeq (tDrop (tMeth (He.ga K "Yard") "check" (sp_Yard_m_check P w K) [] E0 (tVar 0) (tCons (tVar 1) tNil))) (tSeq (tIfS (tB (tDIn (tVar 1) (tVar 2))) (tRet (tLst tNil)) tNext) (tSeq (tAsg (tSet1 w (tVar 1)) (gName 3)) (tSeq (tAsg (tLst (tCons (tVar 1) tNil)) (gName 4)) (tSeq (tWhile (tTru K (tVar 4)) (tSeq (tAsg (tBM0 K "list" rPop (tVar 4)) (gName 5)) (tFor (iTup K (tOp (rCatA K) (tOp (rIxL K) (tFld K (tVar 0) "_lefts") (tVar 5)) (tOp (rIxL K) (tFld K (tVar 0) "_rights") (tVar 5)))) (gName 6) (tIfS (tAnd (tTest (tOp (rSNotIn w) (tVar 6) (tVar 3))) (tB (tDNotIn (tVar 6) (tVar 2)))) (tSeq (tDrop (tSAdd w (tVar 3) (tCons (tVar 6) tNil))) (tDrop (tBM K "list" rAppend (tVar 4) (tCons (tVar 6) tNil)))) tNext)))) (tRet (tCB (rSortX w) (tCons (tVar 3) tNil))))))))
theorem len_Yard_m_reached {P : Program} {w : World} {K : PySem.W.Frag} {vs : List V} {H : Hp} {Q : VK} {E : XK} (h : sp_Yard_m_reached P w K vs H Q E) : vs.length = 3 := by
  obtain ⟨_, _, _, _, _, _, _, rfl, _⟩ := h; rfl
/-- what is known between the turns: l is seen, of these ws wait -/
structure Wk (G : List Pr) (dk : Int → Bool) (k : Int) (l ws : List Int) : Prop where
  one : l.Nodup
  hk : k ∈ l
  ok : ∀ j ∈ l, Rch G dk k j
  wl : ∀ j ∈ ws, j ∈ l
  cl : ∀ i ∈ l, i ∉ ws → ∀ (g : Pr), G[i.toNat]? = some g → ∀ j ∈ g.1 ++ g.2, dk j = false → j ∈ l
theorem Wk.all {G : List Pr} {dk : Int → Bool} {k : Int} {l : List Int} (x : Wk G dk k l []) : ∀ j, j ∈ l ↔ Rch G dk k j := fun j => ⟨x.ok j, fun r => by
  induction r with
  | root _ => exact x.hk
  | @step i j g _ hg m d ih => exact x.cl i ih (by simp) g hg j m d⟩
theorem Wk.few {G : List Pr} {dk : Int → Bool} {k : Int} {l ws : List Int} (x : Wk G dk k l ws) (f : Forms G) (b : 0 ≤ k ∧ k < G.length) : l.length ≤ G.length := by
  have := nodup_le l (nums G.length) x.one fun j m => by
    have := (x.ok j m).bound f b
    exact mem_nums.mpr ⟨this.1, by omega⟩
  rw [nums_len] at this
  exact this
/-- .. between the options of f, the first i of which are gone through -/
structure Wf (G : List Pr) (dk : Int → Bool) (k f : Int) (os : List Int) (i : Nat) (l ws : List Int) : Prop where
  one : l.Nodup
  hk : k ∈ l
  ok : ∀ j ∈ l, Rch G dk k j
  wl : ∀ j ∈ ws, j ∈ l
  fl : f ∈ l
  cl : ∀ x ∈ l, x ∉ ws → x ≠ f → ∀ (g : Pr), G[x.toNat]? = some g → ∀ j ∈ g.1 ++ g.2, dk j = false → j ∈ l
  cf : ∀ j ∈ os.take i, dk j = false → j ∈ l
theorem Wf.skip {G : List Pr} {dk : Int → Bool} {k f : Int} {os : List Int} {i : Nat} {l ws : List Int} {j : Int} (x : Wf G dk k f os i l ws) (h : os[i]? = some j) (s : j ∈ l ∨ dk j = true) : Wf G dk k f os (i + 1) l ws :=
  ⟨x.one, x.hk, x.ok, x.wl, x.fl, x.cl, fun y m d => by
    rw [List.take_add_one, h] at m
    rcases List.mem_append.mp m with m | m
    · exact x.cf y m d
    · have e : y = j := by simpa using m
      subst e
      rcases s with s | s
      · exact s
      · rw [s] at d; cases d⟩
theorem Wf.more {G : List Pr} {dk : Int → Bool} {k f : Int} {g : Pr} {i : Nat} {l ws : List Int} {j : Int} (x : Wf G dk k f (g.1 ++ g.2) i l ws) (hg : G[f.toNat]? = some g) (h : (g.1 ++ g.2)[i]? = some j) (s : j ∉ l) (d : dk j = false) : Wf G dk k f (g.1 ++ g.2) (i + 1) (l ++ [j]) (ws ++ [j]) := by
  have up : ∀ y, y ∈ l → y ∈ l ++ [j] := fun y m => List.mem_append_left _ m
  refine ⟨?_, up _ x.hk, fun y m => ?_, fun y m => ?_, up _ x.fl, fun y m nw nf g' hg' z mz dz => ?_, fun y m dy => ?_⟩
  · rw [List.nodup_append]
    refine ⟨x.one, by simp, fun a ha b hb e => ?_⟩
    rw [List.mem_singleton] at hb
    subst hb; subst e
    exact s ha
  · rcases List.mem_append.mp m with m | m
    · exact x.ok y m
    · rw [List.mem_singleton.mp m]
      exact .step (x.ok f x.fl) hg (List.mem_of_getElem? h) d
  · rcases List.mem_append.mp m with m | m
    · exact up _ (x.wl y m)
    · exact List.mem_append_right _ m
  · rcases List.mem_append.mp m with m | m
    · exact up _ (x.cl y m (fun q => nw (List.mem_append_left _ q)) nf g' hg' z mz dz)
    · exact absurd (List.mem_append_right _ m) nw
  · rw [List.take_add_one, h] at m
    rcases List.mem_append.mp m with m | m
    · exact up _ (x.cf y m dy)
    · have e : y = j := by simpa using m
      subst e
      exact List.mem_append_right _ (List.mem_singleton.mpr rfl)
theorem Wf.done {G : List Pr} {dk : Int → Bool} {k f : Int} {g : Pr} {l ws : List Int} {n : Nat} (x : Wf G dk k f (g.1 ++ g.2) n l ws) (hn : (g.1 ++ g.2).length ≤ n) (hg : G[f.toNat]? = some g) : Wk G dk k l ws :=
  ⟨x.one, x.hk, x.ok, x.wl, fun y m nw g' hg' j mj d => by
    by_cases e : y = f
    · subst e
      rw [hg] at hg'
      injection hg' with hg'
      subst hg'
      exact x.cf j (by rw [List.take_of_length_le hn]; exact mj) d
    · exact x.cl y m nw e g' hg' j mj d⟩
theorem Wk.start {G : List Pr} {dk : Int → Bool} {k f : Int} {l ws os : List Int} (x : Wk G dk k l (ws ++ [f])) : Wf G dk k f os 0 l ws :=
  ⟨x.one, x.hk, x.ok, fun j m => x.wl j (List.mem_append_left _ m), x.wl f (List.mem_append_right _ (List.mem_singleton.mpr rfl)), fun y m nw nf => x.cl y m fun q => (List.mem_append.mp q).elim nw fun z => nf (List.mem_singleton.mp z), fun j m => nomatch m⟩
theorem Wf.few {G : List Pr} {dk : Int → Bool} {k f : Int} {os l ws : List Int} {i : Nat} (x : Wf G dk k f os i l ws) (F : Forms G) (b : 0 ≤ k ∧ k < G.length) : l.length ≤ G.length := by
  have := nodup_le l (nums G.length) x.one fun j m => by
    have := (x.ok j m).bound F b
    exact mem_nums.mpr ⟨this.1, by omega⟩
  rw [nums_len] at this
  exact this
theorem pure_Yard_m_reached {P : Program} {w : World} {K : PySem.W.Frag} (FY : FYard K) (vs : List V) (H : Hp) (Q : VK) (E : XK) (h : sp_Yard_m_reached P w K vs H Q E) : t_Yard_m_reached P w K E { nx := fun _ H' => Q .non H', rt := Q } (start N_Yard_m_reached vs) H := by
  obtain ⟨F, G, hs, ts, k, dn, kvs, rfl, Y, k0, k1, few, hd, q⟩ := h
  unfold t_Yard_m_reached
  repeat walk_at "mst"
  refine Y.meth (by decide +kernel) (by decide +kernel) (by decide +kernel) (by decide +kernel) (by decide +kernel) ?_
  repeat walk_at "mst"
  refine use_check Y ⟨k0, k1⟩ ?_
  repeat walk_at "mst"
  refine ⟨dn, _, rfl, DGet.k (k := Sum.inl k) hd, ?_⟩
  repeat walk_at "mst"
  refine k_iteB (fun dk => ?_) (fun dk => ?_)
  · repeat walk_at "mst"
    refine ⟨by decide, fun p np => ?_⟩
    refine q p [] _ np (Evl.Ex.new np) upd_same .nil fun j => ⟨fun m => (nomatch m), fun r => ?_⟩
    exfalso
    have : dkey kvs k = false := by
      induction r with
      | root h => exact h
      | step _ _ _ _ ih => exact ih
    unfold dkey at this
    rw [dk] at this
    cases this
  have dk : dkey kvs k = false := dk
  repeat walk_at "mst"
  intro sp nsp
  have e1 := Evl.Ex.new (o := SetO w sp (fun _ => false) 0) nsp
  have s1 : upd H sp (SetO w sp (fun _ => false) 0) sp = some (SetO w sp (fun _ => false) 0) := upd_same
  generalize upd H sp (SetO w sp (fun _ => false) 0) = H1 at *
  repeat walk_at "mst"
  refine ⟨s1, ?_⟩
  have e2 : Ex H (upd H1 sp (SetO w sp (fun j => decide (j = k)) 1)) := Evl.Ex.mut e1 nsp
  have s2 : upd H1 sp (SetO w sp (fun j => decide (j = k)) 1) sp = some (SetO w sp (fun j => decide (j = k)) 1) := upd_same
  generalize upd H1 sp (SetO w sp (fun j => decide (j = k)) 1) = H2 at *
  repeat walk_at "mst"
  refine ⟨by show 1 ≤ sizeLine; decide, fun wp nwp => ?_⟩
  have e3 := Evl.Ex.new (o := HO.lst [V.int k]) nwp
  have s3 : upd H2 wp (HO.lst [V.int k]) wp = some (HO.lst (([k] : List Int).map V.int)) := upd_same
  generalize upd H2 wp (HO.lst [V.int k]) = H3 at *
  have e03 := e2.trans e3
  have nwp0 : H wp = none := Evl.fresh_back e2 nwp
  have dsw : sp ≠ wp := ne_of_none s2 nwp
  repeat walk_at "mst"
  refine k_while (fun m σ H' => ∃ (l ws : List Int) (S : Int → Bool) (x5 x6 : Option V), m = 2 * (G.length - l.length) + ws.length ∧ Wk G (dkey kvs) k l ws ∧ Ex H H' ∧ H' sp = some (SetO w sp S l.length) ∧ (∀ j, S j = true ↔ j ∈ l) ∧ H' wp = some (.lst (ws.map V.int)) ∧ ws.length ≤ 2 * l.length ∧
    σ = [some (.ref F.y), some (.int k), some (.ref dn), some (.ref sp), some (.ref wp), x5, x6]) (2 * (G.length - 1) + 1) ?_ ?_
  · refine ⟨[k], [k], fun j => decide (j = k), none, none, rfl, ⟨by simp, by simp, fun j m => by rw [List.mem_singleton.mp m]; exact .root dk, fun j m => m, fun i m n => absurd m n⟩, e03, e3 _ _ s2, fun j => by simp, s3, by show 1 ≤ 2; decide, rfl⟩
  · rintro m σ H4 ⟨l, ws, S, x5, x6, rfl, wk, e4, hsp, hS, hwp, wl, rfl⟩
    have lf := wk.few Y.G ⟨k0, k1⟩
    repeat walk_at "mst"
    refine tru_L (k_sq hwp) ?_
    rcases List.eq_nil_or_concat ws with rfl | ⟨ws', f, rfl⟩
    · rw [show (!(([] : List Int).map V.int).isEmpty) = false from rfl]
      repeat walk_at "mst"
      refine k_rSorted hsp (by omega) fun rs p asc mem len np => ?_
      refine q p rs _ (Evl.fresh_back e4 np) (e4.trans (Evl.Ex.new np)) upd_same asc fun j => ?_
      rw [mem, hS]
      exact wk.all j
    · rw [List.concat_eq_append] at *
      have fl := wk.wl f (List.mem_append_right _ (List.mem_singleton.mpr rfl))
      have fb := (wk.ok f fl).bound Y.G ⟨k0, k1⟩
      obtain ⟨fn, rfl⟩ : ∃ n : Nat, f = n := ⟨f.toNat, by omega⟩
      have hfn : fn < G.length := by omega
      have hg := List.getElem?_eq_getElem hfn
      generalize G[fn] = g at *
      obtain ⟨as1, as2⟩ := Y.G.asc fn g hg
      have l1 := as1.len
      have l2 := as2.len
      have tt : (!((ws' ++ [(fn : Int)]).map V.int).isEmpty) = true := by simp
      rw [tt]
      rw [List.map_append] at hwp
      repeat walk_at "mst"
      refine ⟨fun σ' H' => ∃ m', m' < 2 * (G.length - l.length) + (ws' ++ [(fn : Int)]).length ∧ ∃ (l ws : List Int) (S : Int → Bool) (x5 x6 : Option V), m' = 2 * (G.length - l.length) + ws.length ∧ Wk G (dkey kvs) k l ws ∧ Ex H H' ∧ H' sp = some (SetO w sp S l.length) ∧ (∀ j, S j = true ↔ j ∈ l) ∧ H' wp = some (.lst (ws.map V.int)) ∧ ws.length ≤ 2 * l.length ∧
        σ' = [some (.ref F.y), some (.int k), some (.ref dn), some (.ref sp), some (.ref wp), x5, x6], fun σ' H' h => h, ?_⟩
      repeat walk_at "mst"
      refine k_rPop hwp ?_
      have e5 : Ex H (upd H4 wp (HO.lst (ws'.map V.int))) := Evl.Ex.mut e4 nwp0
      have s5 : upd H4 wp (HO.lst (ws'.map V.int)) wp = some (HO.lst (ws'.map V.int)) := upd_same
      have hsp5 : upd H4 wp (HO.lst (ws'.map V.int)) sp = some (SetO w sp S l.length) := by rw [upd_ne dsw]; exact hsp
      generalize upd H4 wp (HO.lst (ws'.map V.int)) = H5 at *
      have Y5 := Y.ex e5
      obtain ⟨xs, hl, rows⟩ := Y5.ls
      obtain ⟨ys, hr, rowsR⟩ := Y5.rs
      have hi := Y5.ins
      obtain ⟨a1, ha1, hg1⟩ := rows.2 fn g.1 (by rw [List.getElem?_map, hg]; rfl)
      obtain ⟨a2, ha2, hg2⟩ := rowsR.2 fn g.2 (by rw [List.getElem?_map, hg]; rfl)
      repeat walk_at "mst"
      refine k_ixL (k_sq hl) (atI_nat ha1) ?_
      repeat walk_at "mst"
      refine k_ixL (k_sq hr) (atI_nat ha2) ?_
      refine k_rCatA (k_st hg1) (k_st hg2) (by rw [List.length_map, List.length_map]; exact Nat.le_trans (show _ ≤ 2000 by omega) (by decide)) fun p H6 e6 hp => ?_
      rw [← List.map_append] at hp
      have wf0 : Wf G (dkey kvs) k fn (g.1 ++ g.2) 0 l ws' := wk.start
      refine ⟨p, rfl, ⟨_, hp⟩, forK_tup (xs := (g.1 ++ g.2).map V.int) (fun i σ' H' => ∃ (l' ws : List Int) (S : Int → Bool) (x6 : Option V), Wf G (dkey kvs) k fn (g.1 ++ g.2) i l' ws ∧ 2 * (G.length - l'.length) + ws.length ≤ 2 * (G.length - l.length) + ws'.length ∧ Ex H H' ∧ SqT K H' p ((g.1 ++ g.2).map V.int) ∧ H' sp = some (SetO w sp S l'.length) ∧ (∀ j, S j = true ↔ j ∈ l') ∧ H' wp = some (.lst (ws.map V.int)) ∧ ws.length ≤ 2 * l'.length ∧
        σ' = [some (.ref F.y), some (.int k), some (.ref dn), some (.ref sp), some (.ref wp), some (.int fn), x6]) ⟨l, ws', S, x6, wf0, Nat.le_refl _, e5.trans e6, hp, e6 _ _ hsp5, hS, e6 _ _ s5, by rw [List.length_append] at wl; omega, rfl⟩ ?_ ?_ ?_⟩
      · rintro i σ H' _ ⟨_, _, _, _, _, _, _, h, _⟩; exact h
      · rintro i x σ H7 hx ⟨l', ws, S', y6, wf, ms, e7, hp7, hsp7, hS7, hwp7, wl7, rfl⟩
        obtain ⟨j, hj, rfl⟩ := get_int hx
        have lf' := wf.few Y.G ⟨k0, k1⟩
        have hd7 := e7 _ _ hd
        repeat walk_at "mst"
        refine k_sNot hsp7 ?_
        cases sj : S' j
        · repeat walk_at "mst"
          refine ⟨dn, _, rfl, DGet.k (k := Sum.inl j) hd7, ?_⟩
          cases dj : (valV kvs (Sum.inl j)).isSome
          · have dj : dkey kvs j = false := dj
            have nj : j ∉ l' := fun m => by rw [(hS7 j).mpr m] at sj; cases sj
            have wf2 := wf.more hg hj nj dj
            have lf2 := wf2.few Y.G ⟨k0, k1⟩
            rw [List.length_append, List.length_singleton] at lf2
            repeat walk_at "mst"
            refine ⟨⟨sp, S', _, rfl, hsp7⟩, ?_⟩
            repeat walk_at "mst"
            refine k_rSAdd hsp7 (by omega) sj ?_
            have k8 : ∀ c o, H7 c = some o → c ≠ sp → upd H7 sp (SetO w sp (fun i => S' i || decide (i = j)) (l'.length + 1)) c = some o := fun c o z y => (upd_ne y).trans z
            have s8 : upd H7 sp (SetO w sp (fun i => S' i || decide (i = j)) (l'.length + 1)) sp = some (SetO w sp (fun i => S' i || decide (i = j)) (l'.length + 1)) := upd_same
            have e8 : Ex H (upd H7 sp (SetO w sp (fun i => S' i || decide (i = j)) (l'.length + 1))) := Evl.Ex.mut e7 nsp
            generalize upd H7 sp (SetO w sp (fun i => S' i || decide (i = j)) (l'.length + 1)) = H8 at *
            have hwp8 := k8 _ _ hwp7 dsw.symm
            have hp8 : SqT K H8 p ((g.1 ++ g.2).map V.int) := by
              rcases hp7 with (h | ⟨o, h⟩) | h
              · exact Or.inl (Or.inl (k8 _ _ h (ne_of h hsp7 (by intro y; cases y))))
              · exact Or.inl (Or.inr ⟨o, k8 _ _ h (ne_of h hsp7 (by intro y; cases y))⟩)
              · exact Or.inr h
            repeat walk_at "mst"
            · rw [List.length_map]; exact Nat.lt_of_lt_of_le (show _ < 2000 by omega) (by decide)
            have k9 : ∀ c o, H8 c = some o → c ≠ wp → upd H8 wp (HO.lst (ws.map V.int ++ [V.int j])) c = some o := fun c o z y => (upd_ne y).trans z
            have s9 : upd H8 wp (HO.lst (ws.map V.int ++ [V.int j])) wp = some (HO.lst ((ws ++ [j]).map V.int)) := by rw [upd_same]; simp
            have e9 : Ex H (upd H8 wp (HO.lst (ws.map V.int ++ [V.int j]))) := Evl.Ex.mut e8 nwp0
            generalize upd H8 wp (HO.lst (ws.map V.int ++ [V.int j])) = H9 at *
            have hp9 : SqT K H9 p ((g.1 ++ g.2).map V.int) := by
              rcases hp8 with (h | ⟨o, h⟩) | h
              · exact Or.inl (Or.inl (k9 _ _ h (ne_of h hwp8 (by intro y; cases y))))
              · exact Or.inl (Or.inr ⟨o, k9 _ _ h (ne_of h hwp8 (by intro y; cases y))⟩)
              · exact Or.inr h
            refine ⟨l' ++ [j], ws ++ [j], fun i => S' i || decide (i = j), _, wf2, ?_, e9, hp9, ?_, fun i => ?_, s9, ?_, rfl⟩
            · rw [List.length_append, List.length_append, List.length_singleton]; omega
            · rw [List.length_append, List.length_singleton]; exact k9 _ _ s8 dsw
            · rw [Bool.or_eq_true, decide_eq_true_eq, hS7, List.mem_append, List.mem_singleton]
            · rw [List.length_append, List.length_append, List.length_singleton]; omega
          · repeat walk_at "mst"
            exact ⟨l', ws, S', _, wf.skip hj (Or.inr dj), ms, e7, hp7, hsp7, hS7, hwp7, wl7, rfl⟩
        · repeat walk_at "mst"
          exact ⟨l', ws, S', _, wf.skip hj (Or.inl ((hS7 j).mp sj)), ms, e7, hp7, hsp7, hS7, hwp7, wl7, rfl⟩
      · rintro σ H7 ⟨l', ws, S', y6, wf, ms, e7, hp7, hsp7, hS7, hwp7, wl7, rfl⟩
        exact ⟨_, by rw [List.length_append, List.length_singleton]; omega, l', ws, S', _, _, rfl, wf.done (by rw [List.length_map]; exact Nat.le_refl _) hg, e7, hsp7, hS7, hwp7, wl7, rfl⟩
theorem use_reached {P : Program} {w : World} {K : PySem.W.Frag} {H : Hp} {Q : VK} {E : XK} {F : Foot} {G : List Pr} {hs : List Int} {ts : List (Key × V)} {k : Int} {dn : Addr} {kvs : List (Key × V)} (Y : YardAt P w K H F G hs ts) (b : 0 ≤ k ∧ k < G.length) (few : G.length ≤ 900) (hd : H dn = some (.dK kvs))
    (q : ∀ (p : Addr) (rs : List Int) (H' : Hp), H p = none → Ex H H' → H' p = some (.lst (rs.map V.int)) → rs.Pairwise (· < ·) → (∀ j, j ∈ rs ↔ Rch G (dkey kvs) k j) → Q (.ref p) H') : sp_Yard_m_reached P w K (.ref F.y :: ([.int k, .ref dn] ++ [])) H Q E := ⟨F, G, hs, ts, k, dn, kvs, rfl, Y, b.1, b.2, few, hd, q⟩
def sp_Yard_m_followers (P : Program) (w : World) (K : PySem.W.Frag) : Sp := fun vs H Q _ => ∃ (F : Foot) (G : List Pr) (hs : List Int) (ts : List (Key × V)) (k : Int), vs = [.ref F.y, .int k] ∧ YardAt P w K H F G hs ts ∧ 0 ≤ k ∧ k < G.length ∧ G.length ≤ 60 ∧
  ∀ (p : Addr) (rs : List Int) (H' : Hp), H p = none → Ex H H' → H' p = some (.lst (rs.map V.int)) → rs.Pairwise (· < ·) → (∀ j, j ∈ rs ↔ Rch G (dkey []) k j) → Q (.ref p) H'
abbrev N_Yard_m_followers : List Str := ["self", "game"]
def t_Yard_m_followers (P : Program) (w : World) (K : PySem.W.Frag) (E : XK) : TS := (tRet (tMeth (He.ga K "Yard") "reached" (sp_Yard_m_reached P w K) [] E0 (tVar 0) (tCons (tVar 1) (tCons tDNewK tNil))))
theorem len_Yard_m_followers {P : Program} {w : World} {K : PySem.W.Frag} {vs : List V} {H : Hp} {Q : VK} {E : XK} (h : sp_Yard_m_followers P w K vs H Q E) : vs.length = 2 := by
  obtain ⟨_, _, _, _, _, rfl, _⟩ := h; rfl
theorem pure_Yard_m_followers {P : Program} {w : World} {K : PySem.W.Frag} (vs : List V) (H : Hp) (Q : VK) (E : XK) (h : sp_Yard_m_followers P w K vs H Q E) : t_Yard_m_followers P w K E { nx := fun _ H' => Q .non H', rt := Q } (start N_Yard_m_followers vs) H := by
  obtain ⟨F, G, hs, ts, k, rfl, Y, k0, k1, few, q⟩ := h
  unfold t_Yard_m_followers
  repeat walk_at "mst"
  refine Y.meth (by decide +kernel) (by decide +kernel) (by decide +kernel) (by decide +kernel) (by decide +kernel) ?_
  repeat walk_at "mst"
  intro d nd
  have e1 := Evl.Ex.new (o := HO.dK []) nd
  have s1 : upd H d (HO.dK []) d = some (HO.dK []) := upd_same
  generalize upd H d (HO.dK []) = H1 at *
  repeat walk_at "mst"
  exact use_reached (Y.ex e1) ⟨k0, k1⟩ (by omega) s1 fun p rs H' np e h asc mem => q p rs H' (Evl.fresh_back e1 np) (e1.trans e) h asc mem
theorem use_followers {P : Program} {w : World} {K : PySem.W.Frag} {H : Hp} {Q : VK} {E : XK} {F : Foot} {G : List Pr} {hs : List Int} {ts : List (Key × V)} {k : Int} (Y : YardAt P w K H F G hs ts) (b : 0 ≤ k ∧ k < G.length) (few : G.length ≤ 60)
    (q : ∀ (p : Addr) (rs : List Int) (H' : Hp), H p = none → Ex H H' → H' p = some (.lst (rs.map V.int)) → rs.Pairwise (· < ·) → (∀ j, j ∈ rs ↔ Rch G (dkey []) k j) → Q (.ref p) H') : sp_Yard_m_followers P w K (.ref F.y :: ([.int k] ++ [])) H Q E := ⟨F, G, hs, ts, k, rfl, Y, b.1, b.2, few, q⟩
/-- thing: an int -/
def sp_law_is_integer (K : PySem.W.Frag) : Sp := spR (fun vs H => ∃ i : Int, vs = [.int i]) (fun vs H v H' => v = .bl true ∧ H' = H)
abbrev N_law_is_integer : List Str := ["thing"]
def t_law_is_integer (K : PySem.W.Frag) (E : XK) : TS := (tRet (tAndV (tCB (rIsi K) (tCons (tVar 0) (tCons (tC (.ty "int")) tNil))) (tNotV (tCB (rIsi K) (tCons (tVar 0) (tCons (tC (.ty "bool")) tNil))))))
theorem len_law_is_integer {K : PySem.W.Frag} {vs : List V} {H : Hp} {Q : VK} {E : XK} (h : sp_law_is_integer K vs H Q E) : vs.length = 1 := by
  obtain ⟨⟨_, rfl⟩, _⟩ := h; rfl
theorem pure_law_is_integer {K : PySem.W.Frag} (vs : List V) (H : Hp) (Q : VK) (E : XK) (h : sp_law_is_integer K vs H Q E) : t_law_is_integer K E { nx := fun _ H' => Q .non H', rt := Q } (start N_law_is_integer vs) H := by
  obtain ⟨⟨i, rfl⟩, q⟩ := h
  unfold t_law_is_integer
  repeat walk_at "mst"
  exact q _ _ ⟨rfl, rfl⟩
theorem use_is_integer {K : PySem.W.Frag} {H : Hp} {Q : VK} {E : XK} {i : Int} (q : Q (.bl true) H) : sp_law_is_integer K ([.int i] ++ []) H Q E :=
  ⟨⟨i, rfl⟩, fun _ _ ⟨e, e'⟩ => by rw [e, e']; exact q⟩
local macro_rules | `(tactic| walk_at "mst") => `(tactic| with_reducible refine use_is_integer ?_)
def sp_law_all_integers (K : PySem.W.Frag) : Sp := fun vs H Q _ => ∃ (p : Addr) (ns : List Int), vs = [.ref p] ∧ SqL K H p (ns.map V.int) ∧ ns.length ≤ 1000 ∧ ∀ H', Ex H H' → Q (.bl true) H'
abbrev N_law_all_integers : List Str := ["numbers", "number"]
def t_law_all_integers (K : PySem.W.Frag) (E : XK) : TS := (tRet (tOp rEq (tCB (rLenQ K) (tCons (tLc (iList K (tVar 0)) (gName 1) (tNot (tB (tCall (sp_law_is_integer K) [] E0 (tCons (tVar 1) tNil)))) (tVar 1) [1]) tNil)) (tC (.int 0))))
theorem len_law_all_integers {K : PySem.W.Frag} {vs : List V} {H : Hp} {Q : VK} {E : XK} (h : sp_law_all_integers K vs H Q E) : vs.length = 1 := by
  obtain ⟨_, _, rfl, _⟩ := h; rfl
theorem pure_law_all_integers {K : PySem.W.Frag} (vs : List V) (H : Hp) (Q : VK) (E : XK) (h : sp_law_all_integers K vs H Q E) : t_law_all_integers K E { nx := fun _ H' => Q .non H', rt := Q } (start N_law_all_integers vs) H := by
  obtain ⟨p, ns, rfl, hp, few, q⟩ := h
  unfold t_law_all_integers
  repeat walk_at "mst"
  refine ⟨p, rfl, ⟨_, hp⟩, lcR_list (K := K) (fun v => if false = true then some v else none) hp (by rw [List.length_map]; exact Nat.lt_of_le_of_lt few (by decide)) (fun x hx => ?_) fun D1 H1 nD1 e1 hD1 => ?_⟩
  · obtain ⟨k, hk, rfl⟩ := List.mem_map.mp hx
    refine turn_flt (b := false) fun H'' e R r => ?_
    repeat walk_at "mst"
    exact r
  · have z : (ns.map V.int).filterMap (fun v => if false = true then some v else none) = [] := by
      rw [List.filterMap_eq_nil_iff]
      intro a _
      rfl
    rw [z] at hD1
    repeat walk_at "mst"
    exact q H1 e1
theorem use_all_integers {K : PySem.W.Frag} {H : Hp} {Q : VK} {E : XK} {p : Addr} {ns : List Int} (h : SqL K H p (ns.map V.int)) (few : ns.length ≤ 1000) (q : ∀ H', Ex H H' → Q (.bl true) H') : sp_law_all_integers K ([.ref p] ++ []) H Q E := ⟨p, ns, rfl, h, few, q⟩
def sp_law_is_list (K : PySem.W.Frag) : Sp := fun vs H Q _ => ∃ (p d : Addr) (ns : List Int), vs = [.ref p, .ref d] ∧ H p = some (.lst (ns.map V.int)) ∧ SqL K H d (ns.map V.int) ∧ ns.length ≤ 1000 ∧ ∀ H', Ex H H' → Q (.bl true) H'
abbrev N_law_is_list : List Str := ["told", "due"]
def t_law_is_list (K : PySem.W.Frag) (E : XK) : TS := (tRet (tAndV (tCB (rIsi K) (tCons (tVar 0) (tCons (tC (.ty "list")) tNil))) (tAndV (tCall (sp_law_all_integers K) [] E0 (tCons (tVar 0) tNil)) (tOp (rEqD K) (tVar 0) (tVar 1)))))
theorem len_law_is_list {K : PySem.W.Frag} {vs : List V} {H : Hp} {Q : VK} {E : XK} (h : sp_law_is_list K vs H Q E) : vs.length = 2 := by
  obtain ⟨_, _, _, rfl, _⟩ := h; rfl
theorem pure_law_is_list {K : PySem.W.Frag} (vs : List V) (H : Hp) (Q : VK) (E : XK) (h : sp_law_is_list K vs H Q E) : t_law_is_list K E { nx := fun _ H' => Q .non H', rt := Q } (start N_law_is_list vs) H := by
  obtain ⟨p, d, ns, rfl, hp, hd, few, q⟩ := h
  unfold t_law_is_list
  repeat walk_at "mst"
  refine k_isi (cls_ty "list") (.base (.lst hp)) (kit_ty (b := "list") (r := true) (by decide +kernel)) ?_
  repeat walk_at "mst"
  refine use_all_integers (k_sq hp) few fun H1 e1 => ?_
  repeat walk_at "mst"
  refine k_eqIs (k_sq (e1 _ _ hp)) (Evl.ex_l e1 hd) ?_
  rw [decide_eq_true rfl]
  exact q H1 e1
theorem use_is_list {K : PySem.W.Frag} {H : Hp} {Q : VK} {E : XK} {p d : Addr} {ns : List Int} (h : H p = some (.lst (ns.map V.int))) (h2 : SqL K H d (ns.map V.int)) (few : ns.length ≤ 1000) (q : ∀ H', Ex H H' → Q (.bl true) H') : sp_law_is_list K ([.ref p, .ref d] ++ []) H Q E := ⟨p, d, ns, rfl, h, h2, few, q⟩
def sp_law_told (P : Program) (w : World) (K : PySem.W.Frag) : Sp := fun vs H Q _ => ∃ (Z : Addr → Prop) (F : Foot) (M G : List Pr) (hs : List Int) (ts : List (Key × V)) (m np : Addr) (k : Nat), vs = [.ref F.y, .ref m, .ref np, .int k] ∧ YardAt P w K H F G hs ts ∧ ModAt Z H m M ∧ Forms M ∧ (∀ (i : Nat) (g : Pr), M[i]? = some g → G[i]? = some g) ∧ k < M.length ∧ M.length ≤ 50 ∧ G.length ≤ 60 ∧ H np = some (.lst ((nums M.length).map V.int)) ∧
  ∀ H', Ex H H' → Q (.bl true) H'
abbrev N_law_told : List Str := ["yard", "model", "numbers", "at", "due", "k", "told"]
def t_law_told (P : Program) (w : World) (K : PySem.W.Frag) (E : XK) : TS := (tSeq (tAsg (tCB (rSortedI K) (tCons (tLc (iList K (tCall (sp_law_followers K) [] E0 (tCons (tVar 1) (tCons (tVar 3) tNil)))) (gName 5) tYes (tOp (rIxL K) (tVar 2) (tVar 5)) [5]) tNil)) (gName 4)) (tSeq (tAsg (tMeth (He.ga K "Yard") "followers" (sp_Yard_m_followers P w K) [] E0 (tVar 0) (tCons (tOp (rIxL K) (tVar 2) (tVar 3)) tNil)) (gName 6)) (tSeq (tIfS (tNot (tB (tCall (sp_law_is_list K) [] E0 (tCons (tVar 6) (tCons (tVar 4) tNil))))) (tRet (tC (.bl false))) tNext) (tSeq (tDrop (tBM0 K "list" rReverse (tVar 6))) (tSeq (tDrop (tBM K "list" rAppend (tVar 6) (tCons (tOp (rIxL K) (tVar 2) (tVar 3)) tNil))) (tSeq (tDrop (tBM K "list" rPopAt (tVar 6) (tCons (tC (.int 0)) tNil))) (tRet (tCall (sp_law_is_list K) [] E0 (tCons (tMeth (He.ga K "Yard") "followers" (sp_Yard_m_followers P w K) [] E0 (tVar 0) (tCons (tOp (rIxL K) (tVar 2) (tVar 3)) tNil)) (tCons (tVar 4) tNil))))))))))
theorem len_law_told {P : Program} {w : World} {K : PySem.W.Frag} {vs : List V} {H : Hp} {Q : VK} {E : XK} (h : sp_law_told P w K vs H Q E) : vs.length = 4 := by
  obtain ⟨_, _, _, _, _, _, _, _, _, rfl, _⟩ := h; rfl
/-- who is reached does not change when games are added -/
theorem rch_sub {M G : List Pr} {dk : Int → Bool} {k j : Int} (f : Forms M) (sub : ∀ (i : Nat) (g : Pr), M[i]? = some g → G[i]? = some g) (b : 0 ≤ k ∧ k < M.length) : Rch M dk k j ↔ Rch G dk k j := by
  constructor
  · intro r
    induction r with
    | root h => exact .root h
    | step _ hg m h ih => exact .step ih (sub _ _ hg) m h
  · intro r
    induction r with
    | root h => exact .root h
    | @step i j g r hg m h ih =>
      have bi := ih.bound f b
      have hl : i.toNat < M.length := by omega
      have hg' := sub _ _ (List.getElem?_eq_getElem hl)
      rw [hg] at hg'
      injection hg' with hg'
      exact .step ih (by rw [hg']; exact List.getElem?_eq_getElem hl) m h
theorem asc_bound {n : Nat} {rs : List Int} (a : rs.Pairwise (· < ·)) (b : ∀ x ∈ rs, 0 ≤ x ∧ x < (n : Int)) : rs.length ≤ n := Asc.len ⟨a, b⟩
theorem pure_law_told {P : Program} {w : World} {K : PySem.W.Frag} (vs : List V) (H : Hp) (Q : VK) (E : XK) (h : sp_law_told P w K vs H Q E) : t_law_told P w K E { nx := fun _ H' => Q .non H', rt := Q } (start N_law_told vs) H := by
  obtain ⟨Z, F, M, G, hs, ts, m, np, k, rfl, Y, MA, FM, sub, hk, few, few2, hn, q⟩ := h
  unfold t_law_told
  have kG : (0 : Int) ≤ k ∧ (k : Int) < G.length := by
    have := (List.getElem?_eq_some_iff.mp (sub k _ (List.getElem?_eq_getElem hk))).1
    omega
  repeat walk_at "mst"
  refine use_lfollowers MA FM hk (by omega) fun p1 rs H1 n1 e1 h1 asc1 mem1 => ?_
  have bnd : ∀ x ∈ rs, 0 ≤ x ∧ x < (M.length : Int) := fun x mx => by
    have := ((mem1 x).mp mx).bound FM ⟨by omega, by omega⟩
    omega
  have rl := asc_bound asc1 bnd
  have hn1 := e1 _ _ hn
  refine ⟨p1, rfl, ⟨_, k_sq h1⟩, lcR_list (K := K) (onI fun k => k) (k_sq h1) (by rw [List.length_map]; exact Nat.lt_of_le_of_lt (show _ ≤ 100 by omega) (by decide)) (fun x hx => ?_) fun p2 H2 n2 e2 h2 => ?_⟩
  · obtain ⟨z, mz, rfl⟩ := List.mem_map.mp hx
    have bz := bnd z mz
    refine turn_map fun H' e R r => ?_
    have hn' := e _ _ hn1
    repeat walk_at "mst"
    refine k_ixL (k_sq hn') (nums_at bz.1 bz.2) ?_
    exact r
  rw [onI_id] at h2
  have e02 := e1.trans e2
  repeat walk_at "mst"
  refine k_sortA (k_sq h2) asc1 fun du ndu => ?_
  have e3 := Evl.Ex.new (o := HO.lst (rs.map V.int)) ndu
  have s3 : upd H2 du (HO.lst (rs.map V.int)) du = some (HO.lst (rs.map V.int)) := upd_same
  generalize upd H2 du (HO.lst (rs.map V.int)) = H3 at *
  have e03 := e02.trans e3
  have hn3 := e03 _ _ hn
  have Y3 := Y.ex e03
  repeat walk_at "mst"
  refine Y3.meth (by decide +kernel) (by decide +kernel) (by decide +kernel) (by decide +kernel) (by decide +kernel) ?_
  repeat walk_at "mst"
  refine k_ixL (k_sq hn3) (nums_at (by omega) (by omega)) ?_
  repeat walk_at "mst"
  refine use_followers Y3 kG few2 fun t1 rs2 H4 nt1 e4 h4 asc4 mem4 => ?_
  have ers : rs2 = rs := asc_ext asc4 asc1 fun j => (mem4 j).trans ((rch_sub FM sub ⟨by omega, by omega⟩).symm.trans (mem1 j).symm)
  subst ers
  have nt0 : H t1 = none := Evl.fresh_back e03 nt1
  have dd : t1 ≠ du := (ne_of_none s3 nt1).symm
  have s4 := e4 _ _ s3
  have e04 := e03.trans e4
  repeat walk_at "mst"
  refine use_is_list h4 (k_sq s4) (by omega) fun H5 e5 => ?_
  have h5 := e5 _ _ h4
  have s5 := e5 _ _ s4
  have e05 := e04.trans e5
  repeat walk_at "mst"
  refine ⟨t1, _, rfl, rfl, h5, ?_⟩
  have e06 := Evl.Ex.mut (o := HO.lst (rs2.map V.int).reverse) e05 nt0
  have h6 : upd H5 t1 (HO.lst (rs2.map V.int).reverse) t1 = some (HO.lst (rs2.map V.int).reverse) := upd_same
  have s6 : upd H5 t1 (HO.lst (rs2.map V.int).reverse) du = _ := (upd_ne dd.symm).trans s5
  generalize upd H5 t1 (HO.lst (rs2.map V.int).reverse) = H6 at *
  have hn6 := e06 _ _ hn
  repeat walk_at "mst"
  refine k_ixL (k_sq hn6) (nums_at (by omega) (by omega)) ?_
  repeat walk_at "mst"
  · rw [List.length_reverse, List.length_map]; exact Nat.lt_of_le_of_lt (show _ ≤ 100 by omega) (by decide)
  have e07 := Evl.Ex.mut (o := HO.lst ((rs2.map V.int).reverse ++ [V.int (k : Int)])) e06 nt0
  have h7 : upd H6 t1 (HO.lst ((rs2.map V.int).reverse ++ [V.int (k : Int)])) t1 = some (HO.lst ((rs2.map V.int).reverse ++ [V.int (k : Int)])) := upd_same
  have s7 : upd H6 t1 (HO.lst ((rs2.map V.int).reverse ++ [V.int (k : Int)])) du = _ := (upd_ne dd.symm).trans s6
  generalize upd H6 t1 (HO.lst ((rs2.map V.int).reverse ++ [V.int (k : Int)])) = H7 at *
  obtain ⟨y, ys, hy⟩ : ∃ y ys, (rs2.map V.int).reverse ++ [V.int (k : Int)] = y :: ys := by
    cases h : (rs2.map V.int).reverse ++ [V.int (k : Int)] with
    | nil => simp at h
    | cons y ys => exact ⟨y, ys, rfl⟩
  rw [hy] at h7
  repeat walk_at "mst"
  refine ⟨t1, y :: ys, 0, 0, y, rfl, rfl, h7, by decide, by decide, by unfold seqIndex?; simp [List.length_cons]; try omega, rfl, ?_⟩
  have e08 := Evl.Ex.mut (o := HO.lst ((y :: ys).eraseIdx 0)) e07 nt0
  have s8 : upd H7 t1 (HO.lst ((y :: ys).eraseIdx 0)) du = _ := (upd_ne dd.symm).trans s7
  generalize upd H7 t1 (HO.lst ((y :: ys).eraseIdx 0)) = H8 at *
  have hn8 := e08 _ _ hn
  have Y8 := Y.ex e08
  repeat walk_at "mst"
  refine Y8.meth (by decide +kernel) (by decide +kernel) (by decide +kernel) (by decide +kernel) (by decide +kernel) ?_
  repeat walk_at "mst"
  refine k_ixL (k_sq hn8) (nums_at (by omega) (by omega)) ?_
  repeat walk_at "mst"
  refine use_followers Y8 kG few2 fun t2 rs3 H9 nt2 e9 h9 asc9 mem9 => ?_
  have ers : rs3 = rs2 := asc_ext asc9 asc1 fun j => (mem9 j).trans ((rch_sub FM sub ⟨by omega, by omega⟩).symm.trans (mem1 j).symm)
  subst ers
  repeat walk_at "mst"
  exact use_is_list h9 (k_sq (e9 _ _ s8)) (by omega) fun H10 e10 => q H10 (e08.trans (e9.trans e10))
theorem use_told {P : Program} {w : World} {K : PySem.W.Frag} {H : Hp} {Q : VK} {E : XK} {Z : Addr → Prop} {F : Foot} {M G : List Pr} {hs : List Int} {ts : List (Key × V)} {m np : Addr} {k : Nat} (Y : YardAt P w K H F G hs ts) (MA : ModAt Z H m M) (FM : Forms M) (sub : ∀ (i : Nat) (g : Pr), M[i]? = some g → G[i]? = some g) (hk : k < M.length) (few : M.length ≤ 50 ∧ G.length ≤ 60) (hn : H np = some (.lst ((nums M.length).map V.int))) (q : ∀ H', Ex H H' → Q (.bl true) H') :
    sp_law_told P w K ([.ref F.y, .ref m, .ref np, .int (k : Int)] ++ []) H Q E := ⟨Z, F, M, G, hs, ts, m, np, k, rfl, Y, MA, FM, sub, hk, few.1, few.2, hn, q⟩
def sp_law (P : Program) (w : World) (K : PySem.W.Frag) : Sp := spR (fun vs H => ∃ (a : Addr) (ns : List Int), vs = [.ref a] ∧ SqL K H a (ns.map V.int)) (fun _ _ v _ => v = .bl true)
abbrev N_law : List Str := ["script", "yard", "most", "model", "numbers", "at", "top", "due", "k"]
def t_law (P : Program) (w : World) (K : PySem.W.Frag) (E : XK) : TS := (tSeq (tAsg (tMake (He.ga K "Yard") (sp_Yard_d_init P w K) [] E0 tNil) (gName 1)) (tSeq (tAsg (tIf (tTest (tOp rEq (tOp rModI (tOp rDivI (tCB rIntI (tCons (tCall (sp_law_cell K) [] E0 (tCons (tVar 0) (tCons (tC (.int 0)) tNil))) tNil)) (tC (.int 96))) (tC (.int 4))) (tC (.int 1)))) (tC (.int 30)) (tC (.int 8))) (gName 2)) (tSeq (tAsg (tOp (rIxT K) (tCall (sp_law_family K) [] E0 (tCons (tVar 0) (tCons (tC (.int 1)) (tCons (tCall (sp_law_count K) [] E0 (tCons (tCall (sp_law_cell K) [] E0 (tCons (tVar 0) (tCons (tC (.int 0)) tNil))) tNil)) (tCons (tVar 2) tNil))))) (tC (.int 0))) (gName 3)) (tSeq (tAsg (tCall (sp_law_built P w K) [] E0 (tCons (tVar 1) (tCons (tVar 3) tNil))) (gName 4)) (tSeq (tFor (iRng1 (tCons (tCB (rLenQ K) (tCons (tVar 3) tNil)) tNil)) (gName 5) (tIfS (tNot (tB (tCall (sp_law_told P w K) [] E0 (tCons (tVar 1) (tCons (tVar 3) (tCons (tVar 4) (tCons (tVar 5) tNil))))))) (tRet (tC (.bl false))) tNext)) (tSeq (tAsg (tMeth (He.ga K "Yard") "game" (sp_Yard_m_game P w K) [] E0 (tVar 1) (tCons (tLst (tCons (tOp (rIxL K) (tVar 4) (tUn rNegI (tC (.int 1)))) tNil)) (tCons (tLst tNil) tNil))) (gName 6)) (tSeq (tAsg (tLc (iList K (tCall (sp_law_followers K) [] E0 (tCons (tVar 3) (tCons (tOp rSubI (tCB (rLenQ K) (tCons (tVar 3) tNil)) (tC (.int 1))) tNil)))) (gName 8) tYes (tOp (rIxL K) (tVar 4) (tVar 8)) [8]) (gName 7)) (Evl.tCut (tIfS (tTest (tOp (rIn K true) (tVar 6) (tVar 7))) (tDrop (tBM K "list" rAppend (tVar 7) (tCons (tVar 6) tNil))) tNext) (tSeq (tIfS (tNot (tB (tCall (sp_law_is_list K) [] E0 (tCons (tMeth (He.ga K "Yard") "followers" (sp_Yard_m_followers P w K) [] E0 (tVar 1) (tCons (tVar 6) tNil)) (tCons (tCB (rSortedI K) (tCons (tVar 7) tNil)) tNil))))) (tRet (tC (.bl false))) tNext) (tSeq (tFor (iRng1 (tCons (tCB (rLenQ K) (tCons (tVar 3) tNil)) tNil)) (gName 5) (tIfS (tNot (tB (tCall (sp_law_told P w K) [] E0 (tCons (tVar 1) (tCons (tVar 3) (tCons (tVar 4) (tCons (tOp rSubI (tOp rSubI (tCB (rLenQ K) (tCons (tVar 3) tNil)) (tC (.int 1))) (tVar 5)) tNil))))))) (tRet (tC (.bl false))) tNext)) (tRet (tC (.bl true)))))))))))))
theorem len_law {P : Program} {w : World} {K : PySem.W.Frag} {vs : List V} {H : Hp} {Q : VK} {E : XK} (h : sp_law P w K vs H Q E) : vs.length = 1 := by
  obtain ⟨⟨_, _, rfl, _⟩, _⟩ := h; rfl
/-- from a game with one option on: itself, and who is reached from the option -/
theorem rch_one {G : List Pr} {dk : Int → Bool} {n j : Int} {k : Nat} (hG : G[k]? = some ([n], [])) (dn : ∀ x, dk x = false) : Rch G dk k j ↔ j = k ∨ Rch G dk n j := by
  constructor
  · intro r
    induction r with
    | root _ => exact .inl rfl
    | @step i j g r hg m h ih =>
      rcases ih with e | r'
      · subst e
        rw [Int.toNat_natCast, hG] at hg
        injection hg with hg
        subst hg
        have : j = n := by simpa using m
        subst this
        exact .inr (.root h)
      · exact .inr (.step r' hg m h)
  · rintro (e | r)
    · subst e; exact .root (dn _)
    · induction r with
      | root h => exact .step (.root (dn _)) (by rw [Int.toNat_natCast]; exact hG) (by simp) h
      | step _ hg m h ih => exact .step ih hg m h
theorem dkey_nil (x : Int) : dkey [] x = false := rfl
theorem pure_law {P : Program} {w : World} {K : PySem.W.Frag} (vs : List V) (H : Hp) (Q : VK) (E : XK) (h : sp_law P w K vs H Q E) : t_law P w K E { nx := fun _ H' => Q .non H', rt := Q } (start N_law vs) H := by
  obtain ⟨⟨a, ns, rfl, hS⟩, q⟩ := h
  have fin : ∀ b H', b = true → Q (.bl b) H' := by rintro b H' rfl; exact q _ _ rfl
  unfold t_law
  repeat walk_at "mst"
  refine mk_yard fun F H1 fr Y1 => ?_
  have e1 : Ex H H1 := fun c o z => (fr c o z).1
  have hS1 := Evl.ex_l e1 hS
  repeat walk_at "mst"
  refine use_cell hS1 (by decide) fun cc => ?_
  repeat walk_at "mst"
  refine k_if2 fun v hv => ?_
  obtain ⟨mo, rfl, mo0⟩ : ∃ mo : Int, v = V.int mo ∧ 0 < mo := by
    rcases hv with rfl | rfl
    · exact ⟨30, rfl, by decide⟩
    · exact ⟨8, rfl, by decide⟩
  repeat walk_at "mst"
  refine use_cell hS1 (by decide) fun cd => ?_
  repeat walk_at "mst"
  refine use_count fun n n1 n23 => ?_
  repeat walk_at "mst"
  refine use_family hS1 (by decide) ⟨by omega, by omega⟩ mo0 fun t m hp G hts H2 e2 ht nm nhp nmh M hh hl FG O few => ?_
  have few2 : G.length ≤ 24 := by omega
  have om := Y1.fresh nm
  have g0 : 0 < G.length := (List.getElem?_eq_some_iff.mp FG.zero).1
  repeat walk_at "mst"
  refine use_built (Y1.ex e2) M FG (fun c z => Y1.fresh (Classical.byContradiction fun h => z (Or.inl h))) om (by omega) fun np H3 hs3 nnp g3 Y3 hn3 => ?_
  have M3 : ModAt (ZF H1 m hp) H3 m G := by
    obtain ⟨xs, hm, fs⟩ := M
    exact ⟨xs, g3 _ _ hm om, fs.keep (fun c o z h => g3 _ _ z (Y1.fresh (Classical.byContradiction fun y => h (Or.inl y)))) fun c ys z => g3 _ _ z ((Y1.ex e2).tup z)⟩
  obtain ⟨xs, hm, fs⟩ := id M3
  have xl : xs.length = G.length := fs.1
  have onp := (Y1.ex e2).fresh nnp
  repeat walk_at "mst"
  refine ⟨_, rfl, by omega, by omega, ?_⟩
  rw [Int.toNat_natCast, xl]
  refine forK_range (fun i σ H' => Ex H3 H' ∧ ∃ x5 : Option V, σ = [some (.ref a), some (.ref F.y), some (.int mo), some (.ref m), some (.ref np), x5, none, none, none]) ⟨Evl.Ex.refl _, _, rfl⟩ ?_ ?_
  · rintro i σ H' hi ⟨e, x5, rfl⟩
    repeat walk_at "mst"
    refine use_told (Y3.ex e) (M3.up e) FG (fun _ _ h => h) hi ⟨by omega, by omega⟩ (e _ _ hn3) fun H'' e' => ?_
    repeat walk_at "mst"
    exact ⟨e.trans e', _, rfl⟩
  rintro σ H4 ⟨e4, x5, rfl⟩
  have Y4 := Y3.ex e4
  have hn4 := e4 _ _ hn3
  repeat walk_at "mst"
  refine Y4.meth (by decide +kernel) (by decide +kernel) (by decide +kernel) (by decide +kernel) (by decide +kernel) ?_
  repeat walk_at "mst"
  have last : atI ((nums G.length).map V.int) (-1) = some (V.int ((G.length - 1 : Nat) : Int)) := by
    obtain ⟨q, hq⟩ : ∃ q, G.length = q + 1 := ⟨G.length - 1, by omega⟩
    rw [hq, nums_succ, List.map_append]
    exact atI_last _ _
  refine k_ixL (k_sq hn4) last ?_
  repeat walk_at "mst"
  refine ⟨by show 1 ≤ sizeLine; decide, fun p2 n2 => ?_⟩
  have e5 := Evl.Ex.new (o := HO.lst [V.int ((G.length - 1 : Nat) : Int)]) n2
  have s5 : upd H4 p2 (HO.lst [V.int ((G.length - 1 : Nat) : Int)]) p2 = some (HO.lst ([((G.length - 1 : Nat) : Int)].map V.int)) := upd_same
  generalize upd H4 p2 (HO.lst [V.int ((G.length - 1 : Nat) : Int)]) = H5 at *
  repeat walk_at "mst"
  refine ⟨by decide, fun p3 n3 => ?_⟩
  have e6 := Evl.Ex.new (o := HO.lst []) n3
  have s6 : upd H5 p3 (HO.lst []) p3 = some (HO.lst (([] : List Int).map V.int)) := upd_same
  generalize upd H5 p3 (HO.lst []) = H6 at *
  have e46 := e5.trans e6
  have e36 := e4.trans e46
  repeat walk_at "mst"
  refine use_game (Y3.ex e36) (k_sq (e6 _ _ s5)) (k_sq s6) (fun x mx => by rw [List.mem_singleton.mp mx]; omega) (fun x mx => nomatch mx) ⟨(show 1 < 64 by decide), (show 0 < 64 by decide)⟩ (by omega) fun as bs j G2 hs2 H8 A1 A2 g8 Y8 pt _ => ?_
  have ea : as = [((G.length - 1 : Nat) : Int)] := asc_ext A1.1 (by simp) A1.2
  have eb : bs = [] := asc_ext A2.1 .nil A2.2
  subst ea; subst eb
  obtain ⟨ej, eG⟩ : j = (G.length : Int) ∧ G2 = G ++ [([((G.length - 1 : Nat) : Int)], [])] := by
    rcases pt with ⟨k, _, hk, _⟩ | ⟨_, z1, z2⟩
    · have b := (FG.asc k _ hk).1.2 ((G.length - 1 : Nat) : Int) (List.mem_singleton.mpr rfl)
      have kl := (List.getElem?_eq_some_iff.mp hk).1
      omega
    · exact ⟨z1, z2⟩
  subst ej
  have sub : ∀ (i : Nat) (g : Pr), G[i]? = some g → G2[i]? = some g := fun i g h => by
    rw [eG, List.getElem?_append_left (List.getElem?_eq_some_iff.mp h).1]; exact h
  have top : G2[G.length]? = some ([((G.length - 1 : Nat) : Int)], []) := by
    rw [eG, List.getElem?_append_right (Nat.le_refl _), Nat.sub_self]; rfl
  have l2 : G2.length = G.length + 1 := by rw [eG, List.length_append]; rfl
  have hn8 := g8 _ _ (e36 _ _ hn3) onp
  have M8 : ModAt (ZF H1 m hp) H8 m G :=
    ⟨xs, g8 _ _ (e36 _ _ hm) om, (fs.ex e36).keep (fun c o z h => g8 _ _ z (Y1.fresh (Classical.byContradiction fun y => h (Or.inl y)))) fun c ys z => g8 _ _ z ((Y3.ex e36).tup z)⟩
  have hm8 := g8 _ _ (e36 _ _ hm) om
  repeat walk_at "mst"
  have eL : (xs.length : Int) - 1 = ((G.length - 1 : Nat) : Int) := by omega
  rw [eL]
  refine use_lfollowers M8 FG (by omega) (by omega) fun p4 rs H9 n4 e9 h9 asc9 mem9 => ?_
  have bnd : ∀ x ∈ rs, 0 ≤ x ∧ x < (G.length : Int) := fun x mx => by
    have := ((mem9 x).mp mx).bound FG ⟨by omega, by omega⟩
    omega
  have rl := asc_bound asc9 bnd
  have hn9 := e9 _ _ hn8
  refine ⟨p4, rfl, ⟨_, k_sq h9⟩, lcR_list (K := K) (onI fun k => k) (k_sq h9) (by rw [List.length_map]; exact Nat.lt_of_le_of_lt (show _ ≤ 100 by omega) (by decide)) (fun x hx => ?_) fun du H10 ndu e10 h10 => ?_⟩
  · obtain ⟨z, mz, rfl⟩ := List.mem_map.mp hx
    have bz := bnd z mz
    refine turn_map fun H' e R r => ?_
    have hn' := e _ _ hn9
    repeat walk_at "mst"
    refine k_ixL (k_sq hn') (nums_at bz.1 bz.2) ?_
    exact r
  rw [onI_id] at h10
  have e810 := e9.trans e10
  have ndu8 : H8 du = none := Evl.fresh_back e9 ndu
  repeat walk_at "mst"
  refine k_cut (fun σ' H' => Ex H8 H' ∧ H' du = some (HO.lst ((rs ++ [(G.length : Int)]).map V.int)) ∧ σ' = [some (.ref a), some (.ref F.y), some (.int mo), some (.ref m), some (.ref np), x5, some (.int (G.length : Int)), some (.ref du), none]) ?_ ?_
  · repeat walk_at "mst"
    rw [if_pos rfl, decide_eq_false (fun z => by have := bnd _ z; omega)]
    repeat walk_at "mst"
    · rw [List.length_map]; exact Nat.lt_of_le_of_lt (show _ ≤ 100 by omega) (by decide)
    · exact ⟨Evl.Ex.mut e810 ndu8, by rw [upd_same, List.map_append]; rfl, rfl⟩
  rintro σ' H11 ⟨e11, h11, rfl⟩
  have Y11 := Y8.ex e11
  repeat walk_at "mst"
  refine Y11.meth (by decide +kernel) (by decide +kernel) (by decide +kernel) (by decide +kernel) (by decide +kernel) ?_
  repeat walk_at "mst"
  refine use_followers Y11 (k := (G.length : Int)) ⟨by omega, by omega⟩ (by omega) fun t1 rs2 H12 nt1 e12 h12 asc12 mem12 => ?_
  have ascT : (rs ++ [(G.length : Int)]).Pairwise (· < ·) := List.pairwise_append.mpr ⟨asc9, by simp, fun x mx y my => by rw [List.mem_singleton.mp my]; exact (bnd x mx).2⟩
  have ers : rs2 = rs ++ [(G.length : Int)] := asc_ext asc12 ascT fun j => by
    rw [mem12 j, rch_one top dkey_nil, List.mem_append, List.mem_singleton, mem9 j, ← rch_sub FG sub ⟨by omega, by omega⟩]
    exact Or.comm
  subst ers
  have h11' := e12 _ _ h11
  repeat walk_at "mst"
  refine k_sortA (k_sq h11') ascT fun so nso => ?_
  have e13 := Evl.Ex.new (o := HO.lst ((rs ++ [(G.length : Int)]).map V.int)) nso
  have s13 : upd H12 so (HO.lst ((rs ++ [(G.length : Int)]).map V.int)) so = some (HO.lst ((rs ++ [(G.length : Int)]).map V.int)) := upd_same
  generalize upd H12 so (HO.lst ((rs ++ [(G.length : Int)]).map V.int)) = H13 at *
  repeat walk_at "mst"
  refine use_is_list (e13 _ _ h12) (k_sq s13) (by rw [List.length_append, List.length_singleton]; omega) fun H14 e14 => ?_
  have e814 := e11.trans (e12.trans (e13.trans e14))
  have Y14 := Y8.ex e814
  have M14 := M8.up e814
  have hm14 := e814 _ _ hm8
  have hn14 := e814 _ _ hn8
  repeat walk_at "mst"
  refine ⟨_, rfl, by omega, by omega, ?_⟩
  rw [Int.toNat_natCast, xl]
  refine forK_range (fun i σ H' => Ex H14 H' ∧ ∃ x5 : Option V, σ = [some (.ref a), some (.ref F.y), some (.int mo), some (.ref m), some (.ref np), x5, some (.int (G.length : Int)), some (.ref du), none]) ⟨Evl.Ex.refl _, _, rfl⟩ ?_ ?_
  · rintro i σ H' hi ⟨e, x5, rfl⟩
    have hm' := e _ _ hm14
    repeat walk_at "mst"
    have eI : (xs.length : Int) - 1 - (i : Int) = ((G.length - 1 - i : Nat) : Int) := by omega
    rw [eI]
    refine use_told (Y14.ex e) (M14.up e) FG sub (by omega) ⟨by omega, by omega⟩ (e _ _ hn14) fun H'' e' => ?_
    repeat walk_at "mst"
    exact ⟨e.trans e', _, rfl⟩
  rintro σ H15 ⟨e15, x6, rfl⟩
  repeat walk_at "mst"
  exact fin _ _ rfl
def top (i : Nat) : Stmt := PySem.Challenge.pw_sumsplay_k11_followers.main.body.getD i (.Pass ⟨0, 0, 0, 0⟩)
abbrev s_Yard_d_init : Stmt := inClass (top 5) 0
abbrev R_Yard_d_init : List Str := ["self"]
theorem sc_Yard_d_init : FnScope R_Yard_d_init ["self"] (defScope s_Yard_d_init) := ⟨rfl, rfl, rfl, by decide +kernel, rfl, by decide +kernel, by decide +kernel⟩
abbrev ad_Yard_d_init (K : PySem.W.Frag) : Addr := He.ma K (He.ga K "Yard") "__init__"
abbrev s_law_cell : Stmt := top 7
abbrev R_law_cell : List Str := ["script", "k", "mixed", "cell"]
theorem sc_law_cell : FnScope R_law_cell ["script", "k"] (defScope s_law_cell) := ⟨rfl, rfl, rfl, by decide +kernel, rfl, by decide +kernel, by decide +kernel⟩
abbrev ad_law_cell (K : PySem.W.Frag) : Addr := He.ga K "_law_cell"
abbrev s_law_drawn : Stmt := top 11
abbrev R_law_drawn : List Str := ["model", "heights", "digits", "most", "pool", "k", "lefts", "rights", "base"]
theorem sc_law_drawn : FnScope R_law_drawn ["model", "heights", "digits", "most"] (defScope s_law_drawn) := ⟨rfl, rfl, rfl, by decide +kernel, rfl, by decide +kernel, by decide +kernel⟩
abbrev ad_law_drawn (K : PySem.W.Frag) : Addr := He.ga K "_law_drawn"
abbrev s_law_digits : Stmt := top 8
abbrev R_law_digits : List Str := ["cell", "count", "row", "k", "seed"]
theorem sc_law_digits : FnScope R_law_digits ["cell", "count"] (defScope s_law_digits) := ⟨rfl, rfl, rfl, by decide +kernel, rfl, by decide +kernel, by decide +kernel⟩
abbrev ad_law_digits (K : PySem.W.Frag) : Addr := He.ga K "_law_digits"
abbrev s_law_put : Stmt := top 10
abbrev R_law_put : List Str := ["model", "heights", "lefts", "rights", "form", "k"]
theorem sc_law_put : FnScope R_law_put ["model", "heights", "lefts", "rights"] (defScope s_law_put) := ⟨rfl, rfl, rfl, by decide +kernel, rfl, by decide +kernel, by decide +kernel⟩
abbrev ad_law_put (K : PySem.W.Frag) : Addr := He.ga K "_law_put"
abbrev s_law_family : Stmt := top 12
abbrev R_law_family : List Str := ["script", "first", "count", "most", "model", "heights", "k", "drawn"]
theorem sc_law_family : FnScope R_law_family ["script", "first", "count", "most"] (defScope s_law_family) := ⟨rfl, rfl, rfl, by decide +kernel, rfl, by decide +kernel, by decide +kernel⟩
abbrev ad_law_family (K : PySem.W.Frag) : Addr := He.ga K "_law_family"
abbrev s_law_count : Stmt := top 13
abbrev R_law_count : List Str := ["cell", "k"]
theorem sc_law_count : FnScope R_law_count ["cell"] (defScope s_law_count) := ⟨rfl, rfl, rfl, by decide +kernel, rfl, by decide +kernel, by decide +kernel⟩
abbrev ad_law_count (K : PySem.W.Frag) : Addr := He.ga K "_law_count"
abbrev s_Yard_m_check : Stmt := inClass (top 5) 9
abbrev R_Yard_m_check : List Str := ["self", "game"]
theorem sc_Yard_m_check : FnScope R_Yard_m_check ["self", "game"] (defScope s_Yard_m_check) := ⟨rfl, rfl, rfl, by decide +kernel, rfl, by decide +kernel, by decide +kernel⟩
abbrev ad_Yard_m_check (K : PySem.W.Frag) : Addr := He.ma K (He.ga K "Yard") "check"
abbrev s_Yard_p_kept : Stmt := inClass (top 5) 11
abbrev R_Yard_p_kept : List Str := ["self", "lefts", "rights", "options", "option"]
theorem sc_Yard_p_kept : FnScope R_Yard_p_kept ["self", "lefts", "rights"] (defScope s_Yard_p_kept) := ⟨rfl, rfl, rfl, by decide +kernel, rfl, by decide +kernel, by decide +kernel⟩
abbrev ad_Yard_p_kept (K : PySem.W.Frag) : Addr := He.ma K (He.ga K "Yard") "_kept"
abbrev s_Yard_m_game : Stmt := inClass (top 5) 2
abbrev R_Yard_m_game : List Str := ["self", "lefts", "rights", "option"]
theorem sc_Yard_m_game : FnScope R_Yard_m_game ["self", "lefts", "rights"] (defScope s_Yard_m_game) := ⟨rfl, rfl, rfl, by decide +kernel, rfl, by decide +kernel, by decide +kernel⟩
abbrev ad_Yard_m_game (K : PySem.W.Frag) : Addr := He.ma K (He.ga K "Yard") "game"
abbrev s_law_built : Stmt := top 14
abbrev R_law_built : List Str := ["yard", "model", "numbers", "form", "k"]
theorem sc_law_built : FnScope R_law_built ["yard", "model"] (defScope s_law_built) := ⟨rfl, rfl, rfl, by decide +kernel, rfl, by decide +kernel, by decide +kernel⟩
abbrev ad_law_built (K : PySem.W.Frag) : Addr := He.ga K "_law_built"
abbrev s_law_followers : Stmt := top 17
abbrev R_law_followers : List Str := ["model", "at", "found", "form", "k", "option"]
theorem sc_law_followers : FnScope R_law_followers ["model", "at"] (defScope s_law_followers) := ⟨rfl, rfl, rfl, by decide +kernel, rfl, by decide +kernel, by decide +kernel⟩
abbrev ad_law_followers (K : PySem.W.Frag) : Addr := He.ga K "_law_followers"
abbrev s_Yard_m_reached : Stmt := inClass (top 5) 10
abbrev R_Yard_m_reached : List Str := ["self", "game", "done", "seen", "waiting", "follower", "option"]
theorem sc_Yard_m_reached : FnScope R_Yard_m_reached ["self", "game", "done"] (defScope s_Yard_m_reached) := ⟨rfl, rfl, rfl, by decide +kernel, rfl, by decide +kernel, by decide +kernel⟩
abbrev ad_Yard_m_reached (K : PySem.W.Frag) : Addr := He.ma K (He.ga K "Yard") "reached"
abbrev s_Yard_m_followers : Stmt := inClass (top 5) 7
abbrev R_Yard_m_followers : List Str := ["self", "game"]
theorem sc_Yard_m_followers : FnScope R_Yard_m_followers ["self", "game"] (defScope s_Yard_m_followers) := ⟨rfl, rfl, rfl, by decide +kernel, rfl, by decide +kernel, by decide +kernel⟩
abbrev ad_Yard_m_followers (K : PySem.W.Frag) : Addr := He.ma K (He.ga K "Yard") "followers"
abbrev s_law_is_integer : Stmt := top 9
abbrev R_law_is_integer : List Str := ["thing"]
theorem sc_law_is_integer : FnScope R_law_is_integer ["thing"] (defScope s_law_is_integer) := ⟨rfl, rfl, rfl, by decide +kernel, rfl, by decide +kernel, by decide +kernel⟩
abbrev ad_law_is_integer (K : PySem.W.Frag) : Addr := He.ga K "_law_is_integer"
abbrev s_law_all_integers : Stmt := top 15
abbrev R_law_all_integers : List Str := ["numbers", "number"]
theorem sc_law_all_integers : FnScope R_law_all_integers ["numbers"] (defScope s_law_all_integers) := ⟨rfl, rfl, rfl, by decide +kernel, rfl, by decide +kernel, by decide +kernel⟩
abbrev ad_law_all_integers (K : PySem.W.Frag) : Addr := He.ga K "_law_all_integers"
abbrev s_law_is_list : Stmt := top 16
abbrev R_law_is_list : List Str := ["told", "due"]
theorem sc_law_is_list : FnScope R_law_is_list ["told", "due"] (defScope s_law_is_list) := ⟨rfl, rfl, rfl, by decide +kernel, rfl, by decide +kernel, by decide +kernel⟩
abbrev ad_law_is_list (K : PySem.W.Frag) : Addr := He.ga K "_law_is_list"
abbrev s_law_told : Stmt := top 18
abbrev R_law_told : List Str := ["yard", "model", "numbers", "at", "due", "k", "told"]
theorem sc_law_told : FnScope R_law_told ["yard", "model", "numbers", "at"] (defScope s_law_told) := ⟨rfl, rfl, rfl, by decide +kernel, rfl, by decide +kernel, by decide +kernel⟩
abbrev ad_law_told (K : PySem.W.Frag) : Addr := He.ga K "_law_told"
abbrev s_law : Stmt := top 19
abbrev R_law : List Str := ["script", "yard", "most", "model", "numbers", "at", "top", "due", "k"]
theorem sc_law : FnScope R_law ["script"] (defScope s_law) := ⟨rfl, rfl, rfl, by decide +kernel, rfl, by decide +kernel, by decide +kernel⟩
abbrev ad_law (K : PySem.W.Frag) : Addr := He.ga K "law"
structure Txt (K : PySem.W.Frag) (mg : Str → Option Value) : Prop where
  g_Yard : mg "Yard" = some (.ref (He.ga K "Yard"))
  g__law_all_integers : mg "_law_all_integers" = some (.ref (He.ga K "_law_all_integers"))
  g__law_built : mg "_law_built" = some (.ref (He.ga K "_law_built"))
  g__law_cell : mg "_law_cell" = some (.ref (He.ga K "_law_cell"))
  g__law_count : mg "_law_count" = some (.ref (He.ga K "_law_count"))
  g__law_digits : mg "_law_digits" = some (.ref (He.ga K "_law_digits"))
  g__law_drawn : mg "_law_drawn" = some (.ref (He.ga K "_law_drawn"))
  g__law_family : mg "_law_family" = some (.ref (He.ga K "_law_family"))
  g__law_followers : mg "_law_followers" = some (.ref (He.ga K "_law_followers"))
  g__law_is_integer : mg "_law_is_integer" = some (.ref (He.ga K "_law_is_integer"))
  g__law_is_list : mg "_law_is_list" = some (.ref (He.ga K "_law_is_list"))
  g__law_put : mg "_law_put" = some (.ref (He.ga K "_law_put"))
  g__law_told : mg "_law_told" = some (.ref (He.ga K "_law_told"))
  g_law : mg "law" = some (.ref (He.ga K "law"))
  z_bool : mg "bool" = none
  z_int : mg "int" = none
  z_isinstance : mg "isinstance" = none
  z_len : mg "len" = none
  z_list : mg "list" = none
  z_max : mg "max" = none
  z_range : mg "range" = none
  z_set : mg "set" = none
  z_sorted : mg "sorted" = none
  z_tuple : mg "tuple" = none
  cl_Yard : Cls K (He.ga K "Yard")
  mt_Yard__kept : Meth K (He.ga K "Yard") "_kept" (He.ma K (He.ga K "Yard") "_kept")
  mt_Yard_check : Meth K (He.ga K "Yard") "check" (He.ma K (He.ga K "Yard") "check")
  mt_Yard_followers : Meth K (He.ga K "Yard") "followers" (He.ma K (He.ga K "Yard") "followers")
  mt_Yard_game : Meth K (He.ga K "Yard") "game" (He.ma K (He.ga K "Yard") "game")
  mt_Yard_reached : Meth K (He.ga K "Yard") "reached" (He.ma K (He.ga K "Yard") "reached")
  mk_Yard : Mk K (He.ga K "Yard") (He.ma K (He.ga K "Yard") "__init__")
  na_Yard__heights : NoAttr K (He.ga K "Yard") "_heights"
  na_Yard__lefts : NoAttr K (He.ga K "Yard") "_lefts"
  na_Yard__numbers : NoAttr K (He.ga K "Yard") "_numbers"
  na_Yard__rights : NoAttr K (He.ga K "Yard") "_rights"
  na_Yard__turned : NoAttr K (He.ga K "Yard") "_turned"
  d_Yard_d_init : ∃ fd, FunD K "__init__" "Yard.__init__" (defArgs s_Yard_d_init) (defBody s_Yard_d_init) (defScope s_Yard_d_init) [] [] (ad_Yard_d_init K) fd
  d_law_cell : ∃ fd, FunD K "_law_cell" "_law_cell" (defArgs s_law_cell) (defBody s_law_cell) (defScope s_law_cell) [] [] (ad_law_cell K) fd
  d_law_drawn : ∃ fd, FunD K "_law_drawn" "_law_drawn" (defArgs s_law_drawn) (defBody s_law_drawn) (defScope s_law_drawn) [] [] (ad_law_drawn K) fd
  d_law_digits : ∃ fd, FunD K "_law_digits" "_law_digits" (defArgs s_law_digits) (defBody s_law_digits) (defScope s_law_digits) [] [] (ad_law_digits K) fd
  d_law_put : ∃ fd, FunD K "_law_put" "_law_put" (defArgs s_law_put) (defBody s_law_put) (defScope s_law_put) [] [] (ad_law_put K) fd
  d_law_family : ∃ fd, FunD K "_law_family" "_law_family" (defArgs s_law_family) (defBody s_law_family) (defScope s_law_family) [] [] (ad_law_family K) fd
  d_law_count : ∃ fd, FunD K "_law_count" "_law_count" (defArgs s_law_count) (defBody s_law_count) (defScope s_law_count) [] [] (ad_law_count K) fd
  d_Yard_m_check : ∃ fd, FunD K "check" "Yard.check" (defArgs s_Yard_m_check) (defBody s_Yard_m_check) (defScope s_Yard_m_check) [] [] (ad_Yard_m_check K) fd
  d_Yard_p_kept : ∃ fd, FunD K "_kept" "Yard._kept" (defArgs s_Yard_p_kept) (defBody s_Yard_p_kept) (defScope s_Yard_p_kept) [] [] (ad_Yard_p_kept K) fd
  d_Yard_m_game : ∃ fd, FunD K "game" "Yard.game" (defArgs s_Yard_m_game) (defBody s_Yard_m_game) (defScope s_Yard_m_game) [] [] (ad_Yard_m_game K) fd
  d_law_built : ∃ fd, FunD K "_law_built" "_law_built" (defArgs s_law_built) (defBody s_law_built) (defScope s_law_built) [] [] (ad_law_built K) fd
  d_law_followers : ∃ fd, FunD K "_law_followers" "_law_followers" (defArgs s_law_followers) (defBody s_law_followers) (defScope s_law_followers) [] [] (ad_law_followers K) fd
  d_Yard_m_reached : ∃ fd, FunD K "reached" "Yard.reached" (defArgs s_Yard_m_reached) (defBody s_Yard_m_reached) (defScope s_Yard_m_reached) [] [] (ad_Yard_m_reached K) fd
  d_Yard_m_followers : ∃ fd, FunD K "followers" "Yard.followers" (defArgs s_Yard_m_followers) (defBody s_Yard_m_followers) (defScope s_Yard_m_followers) [] [] (ad_Yard_m_followers K) fd
  d_law_is_integer : ∃ fd, FunD K "_law_is_integer" "_law_is_integer" (defArgs s_law_is_integer) (defBody s_law_is_integer) (defScope s_law_is_integer) [] [] (ad_law_is_integer K) fd
  d_law_all_integers : ∃ fd, FunD K "_law_all_integers" "_law_all_integers" (defArgs s_law_all_integers) (defBody s_law_all_integers) (defScope s_law_all_integers) [] [] (ad_law_all_integers K) fd
  d_law_is_list : ∃ fd, FunD K "_law_is_list" "_law_is_list" (defArgs s_law_is_list) (defBody s_law_is_list) (defScope s_law_is_list) [] [] (ad_law_is_list K) fd
  d_law_told : ∃ fd, FunD K "_law_told" "_law_told" (defArgs s_law_told) (defBody s_law_told) (defScope s_law_told) [] [] (ad_law_told K) fd
  d_law : ∃ fd, FunD K "law" "law" (defArgs s_law) (defBody s_law) (defScope s_law) [] [] (ad_law K) fd
theorem Txt.FYard {K : PySem.W.Frag} {mg : Str → Option Value} (T : Txt K mg) : FYard K := ⟨T.cl_Yard, T.na_Yard__lefts, T.na_Yard__rights, T.na_Yard__heights, T.na_Yard__numbers, T.na_Yard__turned⟩
abbrev O_Yard_d_init (P : Program) (w : World) (K : PySem.W.Frag) (mg : Str → Option Value) (base : Heap) : Prop := DefOk P w K mg base CX0 1 "__init__" "Yard.__init__" s_Yard_d_init [] (ad_Yard_d_init K) ["self"] (sp_Yard_d_init P w K)
abbrev O_law_cell (P : Program) (w : World) (K : PySem.W.Frag) (mg : Str → Option Value) (base : Heap) : Prop := DefOk P w K mg base CX0 1 "_law_cell" "_law_cell" s_law_cell [] (ad_law_cell K) ["script", "k"] (sp_law_cell K)
abbrev O_law_drawn (P : Program) (w : World) (K : PySem.W.Frag) (mg : Str → Option Value) (base : Heap) : Prop := DefOk P w K mg base CX0 1 "_law_drawn" "_law_drawn" s_law_drawn [] (ad_law_drawn K) ["model", "heights", "digits", "most"] (sp_law_drawn K)
abbrev O_law_digits (P : Program) (w : World) (K : PySem.W.Frag) (mg : Str → Option Value) (base : Heap) : Prop := DefOk P w K mg base CX0 1 "_law_digits" "_law_digits" s_law_digits [] (ad_law_digits K) ["cell", "count"] (sp_law_digits K)
abbrev O_law_put (P : Program) (w : World) (K : PySem.W.Frag) (mg : Str → Option Value) (base : Heap) : Prop := DefOk P w K mg base CX0 1 "_law_put" "_law_put" s_law_put [] (ad_law_put K) ["model", "heights", "lefts", "rights"] (sp_law_put K)
abbrev O_law_family (P : Program) (w : World) (K : PySem.W.Frag) (mg : Str → Option Value) (base : Heap) : Prop := DefOk P w K mg base CX0 2 "_law_family" "_law_family" s_law_family [] (ad_law_family K) ["script", "first", "count", "most"] (sp_law_family K)
abbrev O_law_count (P : Program) (w : World) (K : PySem.W.Frag) (mg : Str → Option Value) (base : Heap) : Prop := DefOk P w K mg base CX0 1 "_law_count" "_law_count" s_law_count [] (ad_law_count K) ["cell"] (sp_law_count K)
abbrev O_Yard_m_check (P : Program) (w : World) (K : PySem.W.Frag) (mg : Str → Option Value) (base : Heap) : Prop := DefOk P w K mg base CX0 1 "check" "Yard.check" s_Yard_m_check [] (ad_Yard_m_check K) ["self", "game"] (sp_Yard_m_check P w K)
abbrev O_Yard_p_kept (P : Program) (w : World) (K : PySem.W.Frag) (mg : Str → Option Value) (base : Heap) : Prop := DefOk P w K mg base CX0 1 "_kept" "Yard._kept" s_Yard_p_kept [] (ad_Yard_p_kept K) ["self", "lefts", "rights"] (sp_Yard_p_kept P w K)
abbrev O_Yard_m_game (P : Program) (w : World) (K : PySem.W.Frag) (mg : Str → Option Value) (base : Heap) : Prop := DefOk P w K mg base CX0 2 "game" "Yard.game" s_Yard_m_game [] (ad_Yard_m_game K) ["self", "lefts", "rights"] (sp_Yard_m_game P w K)
abbrev O_law_built (P : Program) (w : World) (K : PySem.W.Frag) (mg : Str → Option Value) (base : Heap) : Prop := DefOk P w K mg base CX0 3 "_law_built" "_law_built" s_law_built [] (ad_law_built K) ["yard", "model"] (sp_law_built P w K)
abbrev O_law_followers (P : Program) (w : World) (K : PySem.W.Frag) (mg : Str → Option Value) (base : Heap) : Prop := DefOk P w K mg base CX0 1 "_law_followers" "_law_followers" s_law_followers [] (ad_law_followers K) ["model", "at"] (sp_law_followers K)
abbrev O_Yard_m_reached (P : Program) (w : World) (K : PySem.W.Frag) (mg : Str → Option Value) (base : Heap) : Prop := DefOk P w K mg base CX0 2 "reached" "Yard.reached" s_Yard_m_reached [] (ad_Yard_m_reached K) ["self", "game", "done"] (sp_Yard_m_reached P w K)
abbrev O_Yard_m_followers (P : Program) (w : World) (K : PySem.W.Frag) (mg : Str → Option Value) (base : Heap) : Prop := DefOk P w K mg base CX0 3 "followers" "Yard.followers" s_Yard_m_followers [] (ad_Yard_m_followers K) ["self", "game"] (sp_Yard_m_followers P w K)
abbrev O_law_is_integer (P : Program) (w : World) (K : PySem.W.Frag) (mg : Str → Option Value) (base : Heap) : Prop := DefOk P w K mg base CX0 1 "_law_is_integer" "_law_is_integer" s_law_is_integer [] (ad_law_is_integer K) ["thing"] (sp_law_is_integer K)
abbrev O_law_all_integers (P : Program) (w : World) (K : PySem.W.Frag) (mg : Str → Option Value) (base : Heap) : Prop := DefOk P w K mg base CX0 2 "_law_all_integers" "_law_all_integers" s_law_all_integers [] (ad_law_all_integers K) ["numbers"] (sp_law_all_integers K)
abbrev O_law_is_list (P : Program) (w : World) (K : PySem.W.Frag) (mg : Str → Option Value) (base : Heap) : Prop := DefOk P w K mg base CX0 3 "_law_is_list" "_law_is_list" s_law_is_list [] (ad_law_is_list K) ["told", "due"] (sp_law_is_list K)
abbrev O_law_told (P : Program) (w : World) (K : PySem.W.Frag) (mg : Str → Option Value) (base : Heap) : Prop := DefOk P w K mg base CX0 4 "_law_told" "_law_told" s_law_told [] (ad_law_told K) ["yard", "model", "numbers", "at"] (sp_law_told P w K)
abbrev O_law (P : Program) (w : World) (K : PySem.W.Frag) (mg : Str → Option Value) (base : Heap) : Prop := DefOk P w K mg base CX0 5 "law" "law" s_law [] (ad_law K) ["script"] (sp_law P w K)
theorem ok_Yard_d_init {P : Program} {w : World} {K : PySem.W.Frag} {mg : Str → Option Value} {base : Heap} (T : Txt K mg)  : O_Yard_d_init P w K mg base := by
  obtain ⟨fd, X⟩ := T.d_Yard_d_init
  refine ⟨fd, X, X.ok sc_Yard_d_init (fun vs H Q E h => len_Yard_d_init h) (fun cdv A outer s H vs Q E hr h => ⟨t_Yard_d_init P w K E, PSs.nox ?_, pure_Yard_d_init T.FYard vs H Q E h⟩)⟩
  exact (pss_cons (ps_fld (pv 0) (pe_lst (pa_cons (pe_tup pa_nil) pa_nil)) rfl)
      (pss_cons (ps_fld (pv 0) (pe_lst (pa_cons (pe_tup pa_nil) pa_nil)) rfl)
      (pss_cons (ps_fld (pv 0) (pe_lst (pa_cons pe_int pa_nil)) rfl)
      (pss_cons (ps_fld (pv 0) (pe_ndisp (hu9 hr) (pe_tup (pa_cons (pe_tup pa_nil) (pa_cons (pe_tup pa_nil) pa_nil))) pe_int) rfl)
      (pss_one (ps_fld (pv 0) (pe_disp (pps_cons pe_int pe_int pps_nil) (by rfl) (by rfl) (fun z => by cases z) (by decide)) rfl))))))
theorem ok_law_cell {P : Program} {w : World} {K : PySem.W.Frag} {mg : Str → Option Value} {base : Heap} (T : Txt K mg)  : O_law_cell P w K mg base := by
  obtain ⟨fd, X⟩ := T.d_law_cell
  refine ⟨fd, X, X.ok sc_law_cell (fun vs H Q E h => len_law_cell h) (fun cdv A outer s H vs Q E hr h => ⟨t_law_cell K E, PSs.nox ?_, pure_law_cell vs H Q E h⟩)⟩
  exact (pss_cons (ps_if (pt_cmpR op_lt (pv 1) (pe_callB cr_lenQ rfl T.z_len (by decide +kernel) (pa_cons (pv 0) pa_nil)) (nomark _)) (pss_one (ps_ret (pe_ix ix_list (pv 0) (pv 1) (fun _ _ => rfl)))) pss_nil)
      (pss_cons (ps_set (i := 2) sc_law_cell.nd rfl (Or.inl rfl) (pe_op op_add (pe_op op_mul pe_int (pv 1)) pe_int))
      (pss_cons (ps_for PassesOwn.never rfl (pi_list (pv 0)) (pg_name (i := 3) sc_law_cell.nd rfl (Or.inl rfl))
      (pss_one (ps_set (i := 2) sc_law_cell.nd rfl (Or.inl rfl) (pe_op op_mod (pe_callTy cr_intI rfl T.z_int (by decide +kernel) (pa_cons (pe_op op_add (pe_op op_mul (pv 2) pe_int) (pv 3)) pa_nil)) pe_int))))
      (pss_one (ps_ret (pv 2))))))
theorem ok_law_drawn {P : Program} {w : World} {K : PySem.W.Frag} {mg : Str → Option Value} {base : Heap} (T : Txt K mg)  : O_law_drawn P w K mg base := by
  obtain ⟨fd, X⟩ := T.d_law_drawn
  refine ⟨fd, X, X.ok sc_law_drawn (fun vs H Q E h => len_law_drawn h) (fun cdv A outer s H vs Q E hr h => ⟨t_law_drawn K E, PSs.nox ?_, pure_law_drawn vs H Q E h⟩)⟩
  exact (pss_cons (ps_asg (pe_lc (own := [("k", 5)]) (g := (gName 5)) (tt := (tTest (tOp rLtI (tOp (rIxL K) (tVar 1) (tVar 5)) (tVar 3)))) rfl sc_law_drawn.nd (pi_range1 rfl T.z_range (pa_cons (pe_callB cr_lenQ rfl T.z_len (by decide +kernel) (pa_cons (pv 0) pa_nil)) pa_nil)) (blkOk_by (N := R_law_drawn) (sc := defScope s_law_drawn) (by decide +kernel)) (fun _ _ _ _ _ => (pg_name (i := 5) sc_law_drawn.nd rfl (Or.inl rfl))) (fun _ _ _ _ _ => (pts_one (pt_cmpR op_lt (pe_ix ix_list (pv 1) (pv 5) (fun _ _ => rfl)) (pv 3) (nomark _)))) (fun _ _ _ _ _ => (pv 5))) (pg_name (i := 4) sc_law_drawn.nd rfl (Or.inr rfl)))
      (Evl.pss_cut (ps_if (pt_cmpR op_eq (pe_op op_mod (pe_callTy cr_intI rfl T.z_int (by decide +kernel) (pa_cons (pe_ix ix_list (pv 2) pe_int (fun _ _ => rfl)) pa_nil)) pe_int) pe_int (nomark _)) (pss_one (ps_set (i := 4) sc_law_drawn.nd rfl (Or.inr rfl) (pe_slice sl_list (pv 4) (po_some (pe_un un_neg pe_int)) po_none))) pss_nil)
      (pss_cons (ps_setLc (i := 6) (own := [("k", 5)]) (g := (gName 5)) (tt := tYes) rfl sc_law_drawn.nd rfl rfl (sw_true rfl rfl rfl (by decide +kernel)) (pi_range1 rfl T.z_range (pa_cons (pe_op op_mod (pe_callTy cr_intI rfl T.z_int (by decide +kernel) (pa_cons (pe_ix ix_list (pv 2) pe_int (fun _ _ => rfl)) pa_nil)) pe_int) pa_nil)) (blkOk_by (N := R_law_drawn) (sc := defScope s_law_drawn) (by decide +kernel)) (fun _ _ _ _ _ => (pg_name (i := 5) sc_law_drawn.nd rfl (Or.inl rfl))) (fun _ _ _ _ _ => pts_nil) (fun _ _ _ _ _ => (pe_ix ix_list (pv 4) (pe_op op_mod (pe_callTy cr_intI rfl T.z_int (by decide +kernel) (pa_cons (pe_ix ix_list (pv 2) (pe_op op_add pe_int (pv 5)) (fun _ _ => rfl)) pa_nil)) (pe_callB cr_lenQ rfl T.z_len (by decide +kernel) (pa_cons (pv 4) pa_nil))) (fun _ _ => rfl))))
      (pss_cons (ps_setLc (i := 7) (own := [("k", 5)]) (g := (gName 5)) (tt := tYes) rfl sc_law_drawn.nd rfl rfl (sw_true rfl rfl rfl (by decide +kernel)) (pi_range1 rfl T.z_range (pa_cons (pe_op op_mod (pe_callTy cr_intI rfl T.z_int (by decide +kernel) (pa_cons (pe_ix ix_list (pv 2) pe_int (fun _ _ => rfl)) pa_nil)) pe_int) pa_nil)) (blkOk_by (N := R_law_drawn) (sc := defScope s_law_drawn) (by decide +kernel)) (fun _ _ _ _ _ => (pg_name (i := 5) sc_law_drawn.nd rfl (Or.inl rfl))) (fun _ _ _ _ _ => pts_nil) (fun _ _ _ _ _ => (pe_ix ix_list (pv 4) (pe_op op_mod (pe_callTy cr_intI rfl T.z_int (by decide +kernel) (pa_cons (pe_ix ix_list (pv 2) (pe_op op_add pe_int (pv 5)) (fun _ _ => rfl)) pa_nil)) (pe_callB cr_lenQ rfl T.z_len (by decide +kernel) (pa_cons (pv 4) pa_nil))) (fun _ _ => rfl))))
      (pss_cons (ps_set (i := 8) sc_law_drawn.nd rfl (Or.inl rfl) (pe_ix ix_list (pv 0) (pe_op op_mod (pe_callTy cr_intI rfl T.z_int (by decide +kernel) (pa_cons (pe_ix ix_list (pv 2) pe_int (fun _ _ => rfl)) pa_nil)) (pe_callB cr_lenQ rfl T.z_len (by decide +kernel) (pa_cons (pv 0) pa_nil))) (fun _ _ => rfl)))
      (pss_cons (ps_if (pt_cmpR op_eq (pe_op op_mod (pe_op op_fdiv (pe_ix ix_list (pv 2) pe_int (fun _ _ => rfl)) pe_int) pe_int) pe_int (nomark _)) (pss_one (ps_ret (pe_tup (pa_cons (pe_slice sl_list (pe_op op_cat (pe_ix ix_tup (pv 8) pe_int (fun _ _ => rfl)) (pe_slice sl_list (pv 6) po_none (po_some pe_int))) (po_some (pe_un un_neg pe_int)) po_none) (pa_cons (pe_ix ix_tup (pv 8) pe_int (fun _ _ => rfl)) pa_nil))))) pss_nil)
      (pss_cons (ps_if (pt_cmpR op_eq (pe_op op_mod (pe_op op_fdiv (pe_ix ix_list (pv 2) pe_int (fun _ _ => rfl)) pe_int) pe_int) pe_int (nomark _)) (pss_one (ps_ret (pe_tup (pa_cons (pe_ix ix_tup (pv 8) pe_int (fun _ _ => rfl)) (pa_cons (pe_slice sl_list (pe_op op_cat (pe_ix ix_tup (pv 8) pe_int (fun _ _ => rfl)) (pe_slice sl_list (pv 7) po_none (po_some pe_int))) (po_some (pe_un un_neg pe_int)) po_none) pa_nil))))) pss_nil)
      (pss_one (ps_ret (pe_tup (pa_cons (pv 6) (pa_cons (pv 7) pa_nil))))))))))))
theorem ok_law_digits {P : Program} {w : World} {K : PySem.W.Frag} {mg : Str → Option Value} {base : Heap} (T : Txt K mg)  : O_law_digits P w K mg base := by
  obtain ⟨fd, X⟩ := T.d_law_digits
  refine ⟨fd, X, X.ok sc_law_digits (fun vs H Q E h => len_law_digits h) (fun cdv A outer s H vs Q E hr h => ⟨t_law_digits K E, PSs.nox ?_, pure_law_digits vs H Q E h⟩)⟩
  exact (pss_cons (ps_set (i := 2) sc_law_digits.nd rfl (Or.inl rfl) (pe_lst pa_nil))
      (pss_cons (ps_if (pt_cmpR op_ge (pv 0) (pe_op op_pow pe_int pe_int) (nomark _)) (pss_cons (ps_for PassesOwn.never rfl (pi_range1 rfl T.z_range (pa_cons (pv 1) pa_nil)) (pg_name (i := 3) sc_law_digits.nd rfl (Or.inl rfl))
      (pss_cons (ps_expr (pe_bm PySem.F.plainAttrs_list PySem.F.slot_list_append PySem.F.type_list_append mt_append (pv 2) (pa_cons (pe_op op_mod (pe_callTy cr_intI rfl T.z_int (by decide +kernel) (pa_cons (pv 0) pa_nil)) pe_int) pa_nil)))
      (pss_one (ps_set (i := 0) sc_law_digits.nd rfl (Or.inl rfl) (pe_op op_fdiv (pv 0) pe_int)))))
      (pss_one (ps_ret (pv 2)))) pss_nil)
      (pss_cons (ps_set (i := 4) sc_law_digits.nd rfl (Or.inl rfl) (pe_op op_mod (pe_callTy cr_intI rfl T.z_int (by decide +kernel) (pa_cons (pe_op op_add (pe_op op_mul (pv 0) pe_int) pe_int) pa_nil)) pe_int))
      (pss_cons (ps_for PassesOwn.never rfl (pi_range1 rfl T.z_range (pa_cons (pv 1) pa_nil)) (pg_name (i := 3) sc_law_digits.nd rfl (Or.inl rfl))
      (pss_cons (ps_set (i := 4) sc_law_digits.nd rfl (Or.inl rfl) (pe_op op_mod (pe_callTy cr_intI rfl T.z_int (by decide +kernel) (pa_cons (pe_op op_add (pe_op op_add (pe_op op_mul (pv 4) pe_int) (pe_op op_mul pe_int (pv 3))) pe_int) pa_nil)) pe_int))
      (pss_one (ps_expr (pe_bm PySem.F.plainAttrs_list PySem.F.slot_list_append PySem.F.type_list_append mt_append (pv 2) (pa_cons (pe_op op_mod (pe_callTy cr_intI rfl T.z_int (by decide +kernel) (pa_cons (pe_op op_fdiv (pv 4) pe_int) pa_nil)) pe_int) pa_nil))))))
      (pss_one (ps_ret (pv 2)))))))
theorem ok_law_put {P : Program} {w : World} {K : PySem.W.Frag} {mg : Str → Option Value} {base : Heap} (T : Txt K mg)  : O_law_put P w K mg base := by
  obtain ⟨fd, X⟩ := T.d_law_put
  refine ⟨fd, X, X.ok sc_law_put (fun vs H Q E h => len_law_put h) (fun cdv A outer s H vs Q E hr h => ⟨t_law_put K E, PSs.nox ?_, pure_law_put vs H Q E h⟩)⟩
  exact (pss_cons (ps_set (i := 4) sc_law_put.nd rfl (Or.inl rfl) (pe_tup (pa_cons (pe_lc (own := [("k", 5)]) (g := (gName 5)) (tt := (tTest (tOp (rIn K false) (tVar 5) (tVar 2)))) rfl sc_law_put.nd (pi_range1 rfl T.z_range (pa_cons (pe_callB cr_lenQ rfl T.z_len (by decide +kernel) (pa_cons (pv 0) pa_nil)) pa_nil)) (blkOk_by (N := R_law_put) (sc := defScope s_law_put) (by decide +kernel)) (fun _ _ _ _ _ => (pg_name (i := 5) sc_law_put.nd rfl (Or.inl rfl))) (fun _ _ _ _ _ => (pts_one (pt_cmpR op_in_seq (pv 5) (pv 2) (by rfl)))) (fun _ _ _ _ _ => (pv 5))) (pa_cons (pe_lc (own := [("k", 5)]) (g := (gName 5)) (tt := (tTest (tOp (rIn K false) (tVar 5) (tVar 3)))) rfl sc_law_put.nd (pi_range1 rfl T.z_range (pa_cons (pe_callB cr_lenQ rfl T.z_len (by decide +kernel) (pa_cons (pv 0) pa_nil)) pa_nil)) (blkOk_by (N := R_law_put) (sc := defScope s_law_put) (by decide +kernel)) (fun _ _ _ _ _ => (pg_name (i := 5) sc_law_put.nd rfl (Or.inl rfl))) (fun _ _ _ _ _ => (pts_one (pt_cmpR op_in_seq (pv 5) (pv 3) (by rfl)))) (fun _ _ _ _ _ => (pv 5))) pa_nil))))
      (pss_cons (ps_for PassesOwn.never rfl (pi_range1 rfl T.z_range (pa_cons (pe_callB cr_lenQ rfl T.z_len (by decide +kernel) (pa_cons (pv 0) pa_nil)) pa_nil)) (pg_name (i := 5) sc_law_put.nd rfl (Or.inl rfl))
      (pss_one (ps_if (pt_cmpR (op_eqD hr.units) (pe_ix ix_list (pv 0) (pv 5) (fun _ _ => rfl)) (pv 4) (nomark _)) (pss_one (ps_ret (pv 5))) pss_nil)))
      (pss_cons (ps_expr (pe_bm PySem.F.plainAttrs_list PySem.F.slot_list_append PySem.F.type_list_append mt_append (pv 0) (pa_cons (pv 4) pa_nil)))
      (pss_cons (ps_expr (pe_bm PySem.F.plainAttrs_list PySem.F.slot_list_append PySem.F.type_list_append mt_append (pv 1) (pa_cons (pe_callB (cr_max rfl) rfl T.z_max (by decide +kernel) (pa_cons (pe_op op_cat (pe_lst (pa_cons pe_int pa_nil)) (pe_lc (own := [("k", 5)]) (g := (gName 5)) (tt := tYes) rfl sc_law_put.nd (pi_list (pe_op op_cat (pe_ix ix_tup (pv 4) pe_int (fun _ _ => rfl)) (pe_ix ix_tup (pv 4) pe_int (fun _ _ => rfl)))) (blkOk_by (N := R_law_put) (sc := defScope s_law_put) (by decide +kernel)) (fun _ _ _ _ _ => (pg_name (i := 5) sc_law_put.nd rfl (Or.inl rfl))) (fun _ _ _ _ _ => pts_nil) (fun _ _ _ _ _ => (pe_op op_add pe_int (pe_ix ix_list (pv 1) (pv 5) (fun _ _ => rfl)))))) pa_nil)) pa_nil)))
      (pss_one (ps_ret (pe_op op_sub (pe_callB cr_lenQ rfl T.z_len (by decide +kernel) (pa_cons (pv 0) pa_nil)) pe_int)))))))
theorem ok_law_family {P : Program} {w : World} {K : PySem.W.Frag} {mg : Str → Option Value} {base : Heap} (T : Txt K mg) (D_law_drawn : O_law_drawn P w K mg base) (D_law_digits : O_law_digits P w K mg base) (D_law_cell : O_law_cell P w K mg base) (D_law_put : O_law_put P w K mg base) : O_law_family P w K mg base := by
  obtain ⟨fd_law_drawn, X_law_drawn, G_law_drawn⟩ := D_law_drawn.ex
  have K_law_drawn := X_law_drawn.kp
  have B_law_drawn := X_law_drawn.bindsN (ps := ["model", "heights", "digits", "most"]) fun _ _ _ _ _ _ us hl => match us, hl with | [_, _, _, _], _ => rfl
  have V_law_drawn : Vals [] [] := .nil
  obtain ⟨fd_law_digits, X_law_digits, G_law_digits⟩ := D_law_digits.ex
  have K_law_digits := X_law_digits.kp
  have B_law_digits := X_law_digits.bindsN (ps := ["cell", "count"]) fun _ _ _ _ _ _ us hl => match us, hl with | [_, _], _ => rfl
  have V_law_digits : Vals [] [] := .nil
  obtain ⟨fd_law_cell, X_law_cell, G_law_cell⟩ := D_law_cell.ex
  have K_law_cell := X_law_cell.kp
  have B_law_cell := X_law_cell.bindsN (ps := ["script", "k"]) fun _ _ _ _ _ _ us hl => match us, hl with | [_, _], _ => rfl
  have V_law_cell : Vals [] [] := .nil
  obtain ⟨fd_law_put, X_law_put, G_law_put⟩ := D_law_put.ex
  have K_law_put := X_law_put.kp
  have B_law_put := X_law_put.bindsN (ps := ["model", "heights", "lefts", "rights"]) fun _ _ _ _ _ _ us hl => match us, hl with | [_, _, _, _], _ => rfl
  have V_law_put : Vals [] [] := .nil
  obtain ⟨fd, X⟩ := T.d_law_family
  refine ⟨fd, X, X.ok sc_law_family (fun vs H Q E h => len_law_family h) (fun cdv A outer s H vs Q E hr h => ⟨t_law_family K E, PSs.nox ?_, pure_law_family vs H Q E h⟩)⟩
  exact (pss_cons (ps_set (i := 4) sc_law_family.nd rfl (Or.inl rfl) (pe_lst (pa_cons (pe_tup (pa_cons (pe_lst pa_nil) (pa_cons (pe_lst pa_nil) pa_nil))) pa_nil)))
      (pss_cons (ps_set (i := 5) sc_law_family.nd rfl (Or.inl rfl) (pe_lst (pa_cons pe_int pa_nil)))
      (pss_cons (ps_for PassesOwn.never rfl (pi_range1 rfl T.z_range (pa_cons (pv 2) pa_nil)) (pg_name (i := 6) sc_law_family.nd rfl (Or.inl rfl))
      (pss_cons (ps_set (i := 7) sc_law_family.nd rfl (Or.inl rfl) (pe_call G_law_drawn (hr.mono (by decide)) rfl T.g__law_drawn K_law_drawn B_law_drawn V_law_drawn pass0 (pa_cons (pv 4) (pa_cons (pv 5) (pa_cons (pe_call G_law_digits (hr.mono (by decide)) rfl T.g__law_digits K_law_digits B_law_digits V_law_digits pass0 (pa_cons (pe_call G_law_cell (hr.mono (by decide)) rfl T.g__law_cell K_law_cell B_law_cell V_law_cell pass0 (pa_cons (pv 0) (pa_cons (pe_op op_add (pv 1) (pv 6)) pa_nil))) (pa_cons pe_int pa_nil))) (pa_cons (pv 3) pa_nil))))))
      (pss_one (ps_expr (pe_call G_law_put (hr.mono (by decide)) rfl T.g__law_put K_law_put B_law_put V_law_put pass0 (pa_cons (pv 4) (pa_cons (pv 5) (pa_cons (pe_ix ix_tup (pv 7) pe_int (fun _ _ => rfl)) (pa_cons (pe_ix ix_tup (pv 7) pe_int (fun _ _ => rfl)) pa_nil)))))))))
      (pss_one (ps_ret (pe_tup (pa_cons (pv 4) (pa_cons (pv 5) pa_nil))))))))
theorem ok_law_count {P : Program} {w : World} {K : PySem.W.Frag} {mg : Str → Option Value} {base : Heap} (T : Txt K mg)  : O_law_count P w K mg base := by
  obtain ⟨fd, X⟩ := T.d_law_count
  refine ⟨fd, X, X.ok sc_law_count (fun vs H Q E h => len_law_count h) (fun cdv A outer s H vs Q E hr h => ⟨t_law_count K E, PSs.nox ?_, pure_law_count vs H Q E h⟩)⟩
  exact (pss_cons (ps_set (i := 1) sc_law_count.nd rfl (Or.inl rfl) (pe_op op_mod (pe_callTy cr_intI rfl T.z_int (by decide +kernel) (pa_cons (pv 0) pa_nil)) pe_int))
      (pss_cons (ps_if (pt_cmpR op_eq (pe_op op_mod (pe_callTy cr_intI rfl T.z_int (by decide +kernel) (pa_cons (pv 1) pa_nil)) pe_int) pe_int (nomark _)) (pss_one (ps_ret (pe_op op_add pe_int (pe_op op_fdiv (pv 1) pe_int)))) pss_nil)
      (pss_one (ps_ret (pe_op op_add pe_int (pe_op op_mod (pe_callTy cr_intI rfl T.z_int (by decide +kernel) (pa_cons (pv 1) pa_nil)) pe_int))))))
theorem ok_Yard_m_check {P : Program} {w : World} {K : PySem.W.Frag} {mg : Str → Option Value} {base : Heap} (T : Txt K mg)  : O_Yard_m_check P w K mg base := by
  obtain ⟨fd, X⟩ := T.d_Yard_m_check
  refine ⟨fd, X, X.ok sc_Yard_m_check (fun vs H Q E h => len_Yard_m_check h) (fun cdv A outer s H vs Q E hr h => ⟨t_Yard_m_check P w K E, PSs.nox ?_, pure_Yard_m_check T.FYard vs H Q E h⟩)⟩
  exact (pss_one (ps_if (pt_not (pt_chain op_le op_lt pe_int (pv 1) (pe_callB cr_lenQ rfl T.z_len (by decide +kernel) (pa_cons (pe_fld (pv 0) rfl) pa_nil)))) (pss_one ps_never) pss_nil))
theorem ok_Yard_p_kept {P : Program} {w : World} {K : PySem.W.Frag} {mg : Str → Option Value} {base : Heap} (T : Txt K mg)  : O_Yard_p_kept P w K mg base := by
  obtain ⟨fd, X⟩ := T.d_Yard_p_kept
  refine ⟨fd, X, X.ok sc_Yard_p_kept (fun vs H Q E h => len_Yard_p_kept h) (fun cdv A outer s H vs Q E hr h => ⟨t_Yard_p_kept P w K E, PSs.nox ?_, pure_Yard_p_kept T.FYard vs H Q E h⟩)⟩
  exact (pss_cons (ps_set (i := 3) sc_Yard_p_kept.nd rfl (Or.inl rfl) (pe_tup (pa_cons (pv 1) (pa_cons (pv 2) pa_nil))))
      (Evl.pss_cut (ps_if (pt_cmp (pc_nnot (hu9 hr) (pv 3) (pe_fld (pv 0) rfl))) (pss_cons (ps_nput (hu9 hr) (pe_fld (pv 0) rfl) (pv 3) (pe_callB cr_lenQ rfl T.z_len (by decide +kernel) (pa_cons (pe_fld (pv 0) rfl) pa_nil)) rfl)
      (pss_cons (ps_expr (pe_bm PySem.F.plainAttrs_list PySem.F.slot_list_append PySem.F.type_list_append mt_append (pe_fld (pv 0) rfl) (pa_cons (pe_op op_add pe_int (pe_callB (cr_max rfl) rfl T.z_max (by decide +kernel) (pa_cons (pe_lc (own := [("option", 4)]) (g := (gName 4)) (tt := tYes) rfl sc_Yard_p_kept.nd (pi_tup (pe_op op_catA (pv 1) (pv 2))) (blkOk_by (N := R_Yard_p_kept) (sc := defScope s_Yard_p_kept) (by decide +kernel)) (fun _ _ _ _ _ => (pg_name (i := 4) sc_Yard_p_kept.nd rfl (Or.inl rfl))) (fun _ _ _ _ _ => pts_nil) (fun _ _ _ _ _ => (pe_ix ix_list (pe_fld (pv 0) rfl) (pv 4) (fun _ _ => rfl)))) pa_nil))) pa_nil)))
      (pss_cons (ps_expr (pe_bm PySem.F.plainAttrs_list PySem.F.slot_list_append PySem.F.type_list_append mt_append (pe_fld (pv 0) rfl) (pa_cons (pv 1) pa_nil)))
      (pss_one (ps_expr (pe_bm PySem.F.plainAttrs_list PySem.F.slot_list_append PySem.F.type_list_append mt_append (pe_fld (pv 0) rfl) (pa_cons (pv 2) pa_nil))))))) pss_nil)
      (pss_one (ps_ret (pe_nget (hu9 hr) (pe_fld (pv 0) rfl) (pv 3) (fun _ _ => rfl))))))
theorem ok_Yard_m_game {P : Program} {w : World} {K : PySem.W.Frag} {mg : Str → Option Value} {base : Heap} (T : Txt K mg) (D_Yard_m_check : O_Yard_m_check P w K mg base) (D_Yard_p_kept : O_Yard_p_kept P w K mg base) : O_Yard_m_game P w K mg base := by
  obtain ⟨fd_Yard_m_check, X_Yard_m_check, G_Yard_m_check⟩ := D_Yard_m_check.ex
  have K_Yard_m_check := X_Yard_m_check.kp
  have B_Yard_m_check := X_Yard_m_check.bindsN (ps := ["self", "game"]) fun _ _ _ _ _ _ us hl => match us, hl with | [_, _], _ => rfl
  have V_Yard_m_check : Vals [] [] := .nil
  obtain ⟨fd_Yard_p_kept, X_Yard_p_kept, G_Yard_p_kept⟩ := D_Yard_p_kept.ex
  have K_Yard_p_kept := X_Yard_p_kept.kp
  have B_Yard_p_kept := X_Yard_p_kept.bindsN (ps := ["self", "lefts", "rights"]) fun _ _ _ _ _ _ us hl => match us, hl with | [_, _, _], _ => rfl
  have V_Yard_p_kept : Vals [] [] := .nil
  obtain ⟨fd, X⟩ := T.d_Yard_m_game
  refine ⟨fd, X, X.ok sc_Yard_m_game (fun vs H Q E h => len_Yard_m_game h) (fun cdv A outer s H vs Q E hr h => ⟨t_Yard_m_game P w K E, PSs.nox ?_, pure_Yard_m_game vs H Q E h⟩)⟩
  exact (pss_cons (ps_for PassesOwn.never rfl (pi_list (pv 1)) (pg_name (i := 3) sc_Yard_m_game.nd rfl (Or.inl rfl))
      (pss_one (ps_expr (pe_meth (pv 0) T.cl_Yard T.mt_Yard_check G_Yard_m_check (hr.mono (by decide)) B_Yard_m_check .nil pass0 (pa_cons (pv 3) pa_nil)))))
      (pss_cons (ps_for PassesOwn.never rfl (pi_list (pv 2)) (pg_name (i := 3) sc_Yard_m_game.nd rfl (Or.inl rfl))
      (pss_one (ps_expr (pe_meth (pv 0) T.cl_Yard T.mt_Yard_check G_Yard_m_check (hr.mono (by decide)) B_Yard_m_check .nil pass0 (pa_cons (pv 3) pa_nil)))))
      (pss_one (ps_ret (pe_meth (pv 0) T.cl_Yard T.mt_Yard__kept G_Yard_p_kept (hr.mono (by decide)) B_Yard_p_kept .nil pass0 (pa_cons (pe_callTy cr_tupL rfl T.z_tuple (by decide +kernel) (pa_cons (pe_callB (cr_sortX rfl) rfl T.z_sorted (by decide +kernel) (pa_cons (pe_callTy (cr_setL rfl) rfl T.z_set (by decide +kernel) (pa_cons (pv 1) pa_nil)) pa_nil)) pa_nil)) (pa_cons (pe_callTy cr_tupL rfl T.z_tuple (by decide +kernel) (pa_cons (pe_callB (cr_sortX rfl) rfl T.z_sorted (by decide +kernel) (pa_cons (pe_callTy (cr_setL rfl) rfl T.z_set (by decide +kernel) (pa_cons (pv 2) pa_nil)) pa_nil)) pa_nil)) pa_nil)))))))
theorem ok_law_built {P : Program} {w : World} {K : PySem.W.Frag} {mg : Str → Option Value} {base : Heap} (T : Txt K mg) (D_Yard_m_game : O_Yard_m_game P w K mg base) : O_law_built P w K mg base := by
  obtain ⟨fd_Yard_m_game, X_Yard_m_game, G_Yard_m_game⟩ := D_Yard_m_game.ex
  have K_Yard_m_game := X_Yard_m_game.kp
  have B_Yard_m_game := X_Yard_m_game.bindsN (ps := ["self", "lefts", "rights"]) fun _ _ _ _ _ _ us hl => match us, hl with | [_, _, _], _ => rfl
  have V_Yard_m_game : Vals [] [] := .nil
  obtain ⟨fd, X⟩ := T.d_law_built
  refine ⟨fd, X, X.ok sc_law_built (fun vs H Q E h => len_law_built h) (fun cdv A outer s H vs Q E hr h => ⟨t_law_built P w K E, PSs.nox ?_, pure_law_built vs H Q E h⟩)⟩
  exact (pss_cons (ps_set (i := 2) sc_law_built.nd rfl (Or.inr rfl) (pe_lst (pa_cons pe_int pa_nil)))
      (pss_cons (ps_for PassesOwn.never rfl (pi_list (pe_slice sl_list (pv 1) (po_some pe_int) po_none)) (pg_name (i := 3) sc_law_built.nd rfl (Or.inl rfl))
      (pss_one (ps_expr (pe_bm PySem.F.plainAttrs_list PySem.F.slot_list_append PySem.F.type_list_append mt_append (pv 2) (pa_cons (pe_meth (pv 0) T.cl_Yard T.mt_Yard_game G_Yard_m_game (hr.mono (by decide)) B_Yard_m_game .nil pass0 (pa_cons (pe_lc (own := [("k", 4)]) (g := (gName 4)) (tt := tYes) rfl sc_law_built.nd (pi_list (pe_ix ix_tup (pv 3) pe_int (fun _ _ => rfl))) (blkOk_by (N := R_law_built) (sc := defScope s_law_built) (by decide +kernel)) (fun _ _ _ _ _ => (pg_name (i := 4) sc_law_built.nd rfl (Or.inl rfl))) (fun _ _ _ _ _ => pts_nil) (fun _ _ _ _ _ => (pe_ix ix_list (pv 2) (pv 4) (fun _ _ => rfl)))) (pa_cons (pe_lc (own := [("k", 4)]) (g := (gName 4)) (tt := tYes) rfl sc_law_built.nd (pi_list (pe_ix ix_tup (pv 3) pe_int (fun _ _ => rfl))) (blkOk_by (N := R_law_built) (sc := defScope s_law_built) (by decide +kernel)) (fun _ _ _ _ _ => (pg_name (i := 4) sc_law_built.nd rfl (Or.inl rfl))) (fun _ _ _ _ _ => pts_nil) (fun _ _ _ _ _ => (pe_ix ix_list (pv 2) (pv 4) (fun _ _ => rfl)))) pa_nil))) pa_nil)))))
      (pss_one (ps_ret (pv 2)))))
theorem ok_law_followers {P : Program} {w : World} {K : PySem.W.Frag} {mg : Str → Option Value} {base : Heap} (T : Txt K mg)  : O_law_followers P w K mg base := by
  obtain ⟨fd, X⟩ := T.d_law_followers
  refine ⟨fd, X, X.ok sc_law_followers (fun vs H Q E h => len_law_followers h) (fun cdv A outer s H vs Q E hr h => ⟨t_law_followers K E, PSs.nox ?_, pure_law_followers vs H Q E h⟩)⟩
  exact (pss_cons (ps_asg (pe_lc (own := [("form", 3)]) (g := (gName 3)) (tt := tYes) rfl sc_law_followers.nd (pi_list (pv 0)) (blkOk_by (N := R_law_followers) (sc := defScope s_law_followers) (by decide +kernel)) (fun _ _ _ _ _ => (pg_name (i := 3) sc_law_followers.nd rfl (Or.inl rfl))) (fun _ _ _ _ _ => pts_nil) (fun _ _ _ _ _ => pe_bl)) (pg_name (i := 2) sc_law_followers.nd rfl (Or.inr rfl)))
      (pss_cons (ps_asg pe_bl (pg_sub (pv 2) (pv 1) set_list))
      (pss_cons (ps_for PassesOwn.never rfl (pi_range3 rfl T.z_range (pa_cons (pv 1) (pa_cons (pe_un un_neg pe_int) (pa_cons (pe_un un_neg pe_int) pa_nil)))) (pg_name (i := 4) sc_law_followers.nd rfl (Or.inl rfl))
      (pss_one (ps_if (pt_val (pe_ix ix_list (pv 2) (pv 4) (fun _ _ => rfl))) (pss_one (ps_for PassesOwn.never rfl (pi_list (pe_op op_cat (pe_ix ix_tup (pe_ix ix_list (pv 0) (pv 4) (fun _ _ => rfl)) pe_int (fun _ _ => rfl)) (pe_ix ix_tup (pe_ix ix_list (pv 0) (pv 4) (fun _ _ => rfl)) pe_int (fun _ _ => rfl)))) (pg_name (i := 5) sc_law_followers.nd rfl (Or.inl rfl))
      (pss_one (ps_asg pe_bl (pg_sub (pv 2) (pv 5) set_list))))) pss_nil)))
      (pss_one (ps_ret (pe_lc (own := [("k", 4)]) (g := (gName 4)) (tt := (tB (tOp (rIxL K) (tVar 2) (tVar 4)))) rfl sc_law_followers.nd (pi_range1 rfl T.z_range (pa_cons (pe_op op_add (pv 1) pe_int) pa_nil)) (blkOk_by (N := R_law_followers) (sc := defScope s_law_followers) (by decide +kernel)) (fun _ _ _ _ _ => (pg_name (i := 4) sc_law_followers.nd rfl (Or.inl rfl))) (fun _ _ _ _ _ => (pts_one (pt_val (pe_ix ix_list (pv 2) (pv 4) (fun _ _ => rfl))))) (fun _ _ _ _ _ => (pv 4))))))))
theorem ok_Yard_m_reached {P : Program} {w : World} {K : PySem.W.Frag} {mg : Str → Option Value} {base : Heap} (T : Txt K mg) (D_Yard_m_check : O_Yard_m_check P w K mg base) : O_Yard_m_reached P w K mg base := by
  obtain ⟨fd_Yard_m_check, X_Yard_m_check, G_Yard_m_check⟩ := D_Yard_m_check.ex
  have K_Yard_m_check := X_Yard_m_check.kp
  have B_Yard_m_check := X_Yard_m_check.bindsN (ps := ["self", "game"]) fun _ _ _ _ _ _ us hl => match us, hl with | [_, _], _ => rfl
  have V_Yard_m_check : Vals [] [] := .nil
  obtain ⟨fd, X⟩ := T.d_Yard_m_reached
  refine ⟨fd, X, okC X sc_Yard_m_reached (fun vs H Q E h => len_Yard_m_reached h) (fun cdv hcode A outer s H vs Q E hr h => ⟨t_Yard_m_reached P w K E, PSs.nox ?_, pure_Yard_m_reached T.FYard vs H Q E h⟩)⟩
  exact (pss_cons (ps_expr (pe_meth (pv 0) T.cl_Yard T.mt_Yard_check G_Yard_m_check (hr.mono (by decide)) B_Yard_m_check .nil pass0 (pa_cons (pv 1) pa_nil)))
      (pss_cons (ps_if (pt_cmp (pc_din (hu_of hr) (pv 1) (pv 2))) (pss_one (ps_ret (pe_lst pa_nil))) pss_nil)
      (pss_cons (ps_set (i := 3) sc_Yard_m_reached.nd rfl (Or.inl rfl) (pe_set1 hcode (pv 1)))
      (pss_cons (ps_set (i := 4) sc_Yard_m_reached.nd rfl (Or.inl rfl) (pe_lst (pa_cons (pv 1) pa_nil)))
      (pss_cons (ps_while PassesOwn.never (pt_truth (pv 4) (by intro _; rfl)) (pss_cons (ps_set (i := 5) sc_Yard_m_reached.nd rfl (Or.inl rfl) (pe_bm0 PySem.F.plainAttrs_list PySem.F.slot_list_pop PySem.F.type_list_pop mt_pop (pv 4)))
      (pss_one (ps_for PassesOwn.never rfl (pi_tup (pe_op op_catA (pe_ix ix_list (pe_fld (pv 0) rfl) (pv 5) (fun _ _ => rfl)) (pe_ix ix_list (pe_fld (pv 0) rfl) (pv 5) (fun _ _ => rfl)))) (pg_name (i := 6) sc_Yard_m_reached.nd rfl (Or.inl rfl))
      (pss_one (ps_if (PW.pt (pw_and (pt_cmpR or_snotin (pv 6) (pv 3) (by rfl)) (pw_and1 (pt_cmp (pc_dnotin (hu_of hr) (pv 6) (pv 2)))))) (pss_cons (ps_expr (pe_sadd (pv 3) (pa_cons (pv 6) pa_nil)))
      (pss_one (ps_expr (pe_bm PySem.F.plainAttrs_list PySem.F.slot_list_append PySem.F.type_list_append mt_append (pv 4) (pa_cons (pv 6) pa_nil))))) pss_nil))))))
      (pss_one (ps_ret (pe_callB (cr_sortX rfl) rfl T.z_sorted (by decide +kernel) (pa_cons (pv 3) pa_nil)))))))))
theorem ok_Yard_m_followers {P : Program} {w : World} {K : PySem.W.Frag} {mg : Str → Option Value} {base : Heap} (T : Txt K mg) (D_Yard_m_reached : O_Yard_m_reached P w K mg base) : O_Yard_m_followers P w K mg base := by
  obtain ⟨fd_Yard_m_reached, X_Yard_m_reached, G_Yard_m_reached⟩ := D_Yard_m_reached.ex
  have K_Yard_m_reached := X_Yard_m_reached.kp
  have B_Yard_m_reached := X_Yard_m_reached.bindsN (ps := ["self", "game", "done"]) fun _ _ _ _ _ _ us hl => match us, hl with | [_, _, _], _ => rfl
  have V_Yard_m_reached : Vals [] [] := .nil
  obtain ⟨fd, X⟩ := T.d_Yard_m_followers
  refine ⟨fd, X, X.ok sc_Yard_m_followers (fun vs H Q E h => len_Yard_m_followers h) (fun cdv A outer s H vs Q E hr h => ⟨t_Yard_m_followers P w K E, PSs.nox ?_, pure_Yard_m_followers vs H Q E h⟩)⟩
  exact (pss_one (ps_ret (pe_meth (pv 0) T.cl_Yard T.mt_Yard_reached G_Yard_m_reached (hr.mono (by decide)) B_Yard_m_reached .nil pass0 (pa_cons (pv 1) (pa_cons pe_dnewK pa_nil)))))
theorem ok_law_is_integer {P : Program} {w : World} {K : PySem.W.Frag} {mg : Str → Option Value} {base : Heap} (T : Txt K mg)  : O_law_is_integer P w K mg base := by
  obtain ⟨fd, X⟩ := T.d_law_is_integer
  refine ⟨fd, X, X.ok sc_law_is_integer (fun vs H Q E h => len_law_is_integer h) (fun cdv A outer s H vs Q E hr h => ⟨t_law_is_integer K E, PSs.nox ?_, pure_law_is_integer vs H Q E h⟩)⟩
  exact (pss_one (ps_ret (pe_and (pe_callB call_isi rfl T.z_isinstance (by decide +kernel) (pa_cons (pv 0) (pa_cons (pe_bltn rfl T.z_int (by decide +kernel) rfl) pa_nil))) (pe_one (pe_not (pe_callB call_isi rfl T.z_isinstance (by decide +kernel) (pa_cons (pv 0) (pa_cons (pe_bltn rfl T.z_bool (by decide +kernel) rfl) pa_nil))))))))
theorem ok_law_all_integers {P : Program} {w : World} {K : PySem.W.Frag} {mg : Str → Option Value} {base : Heap} (T : Txt K mg) (D_law_is_integer : O_law_is_integer P w K mg base) : O_law_all_integers P w K mg base := by
  obtain ⟨fd_law_is_integer, X_law_is_integer, G_law_is_integer⟩ := D_law_is_integer.ex
  have K_law_is_integer := X_law_is_integer.kp
  have B_law_is_integer := X_law_is_integer.bindsN (ps := ["thing"]) fun _ _ _ _ _ _ us hl => match us, hl with | [_], _ => rfl
  have V_law_is_integer : Vals [] [] := .nil
  obtain ⟨fd, X⟩ := T.d_law_all_integers
  refine ⟨fd, X, X.ok sc_law_all_integers (fun vs H Q E h => len_law_all_integers h) (fun cdv A outer s H vs Q E hr h => ⟨t_law_all_integers K E, PSs.nox ?_, pure_law_all_integers vs H Q E h⟩)⟩
  exact (pss_one (ps_ret (pe_cmpR op_eq (pe_callB cr_lenQ rfl T.z_len (by decide +kernel) (pa_cons (pe_lc (own := [("number", 1)]) (g := (gName 1)) (tt := (tNot (tB (tCall (sp_law_is_integer K) [] E0 (tCons (tVar 1) tNil))))) rfl sc_law_all_integers.nd (pi_list (pv 0)) (blkOk_by (N := R_law_all_integers) (sc := defScope s_law_all_integers) (by decide +kernel)) (fun _ _ _ _ _ => (pg_name (i := 1) sc_law_all_integers.nd rfl (Or.inl rfl))) (fun _ _ _ _ _ => (pts_one (pt_not (pt_val (pe_call G_law_is_integer (hr.mono (by decide)) rfl T.g__law_is_integer K_law_is_integer B_law_is_integer V_law_is_integer pass0 (pa_cons (pv 1) pa_nil)))))) (fun _ _ _ _ _ => (pv 1))) pa_nil)) pe_int (nomark _))))
theorem ok_law_is_list {P : Program} {w : World} {K : PySem.W.Frag} {mg : Str → Option Value} {base : Heap} (T : Txt K mg) (D_law_all_integers : O_law_all_integers P w K mg base) : O_law_is_list P w K mg base := by
  obtain ⟨fd_law_all_integers, X_law_all_integers, G_law_all_integers⟩ := D_law_all_integers.ex
  have K_law_all_integers := X_law_all_integers.kp
  have B_law_all_integers := X_law_all_integers.bindsN (ps := ["numbers"]) fun _ _ _ _ _ _ us hl => match us, hl with | [_], _ => rfl
  have V_law_all_integers : Vals [] [] := .nil
  obtain ⟨fd, X⟩ := T.d_law_is_list
  refine ⟨fd, X, X.ok sc_law_is_list (fun vs H Q E h => len_law_is_list h) (fun cdv A outer s H vs Q E hr h => ⟨t_law_is_list K E, PSs.nox ?_, pure_law_is_list vs H Q E h⟩)⟩
  exact (pss_one (ps_ret (pe_and (pe_callB call_isi rfl T.z_isinstance (by decide +kernel) (pa_cons (pv 0) (pa_cons (pe_bltn rfl T.z_list (by decide +kernel) rfl) pa_nil))) (pe_and (pe_call G_law_all_integers (hr.mono (by decide)) rfl T.g__law_all_integers K_law_all_integers B_law_all_integers V_law_all_integers pass0 (pa_cons (pv 0) pa_nil)) (pe_one (pe_cmpR (op_eqD hr.units) (pv 0) (pv 1) (nomark _)))))))
theorem ok_law_told {P : Program} {w : World} {K : PySem.W.Frag} {mg : Str → Option Value} {base : Heap} (T : Txt K mg) (D_law_followers : O_law_followers P w K mg base) (D_Yard_m_followers : O_Yard_m_followers P w K mg base) (D_law_is_list : O_law_is_list P w K mg base) : O_law_told P w K mg base := by
  obtain ⟨fd_law_followers, X_law_followers, G_law_followers⟩ := D_law_followers.ex
  have K_law_followers := X_law_followers.kp
  have B_law_followers := X_law_followers.bindsN (ps := ["model", "at"]) fun _ _ _ _ _ _ us hl => match us, hl with | [_, _], _ => rfl
  have V_law_followers : Vals [] [] := .nil
  obtain ⟨fd_Yard_m_followers, X_Yard_m_followers, G_Yard_m_followers⟩ := D_Yard_m_followers.ex
  have K_Yard_m_followers := X_Yard_m_followers.kp
  have B_Yard_m_followers := X_Yard_m_followers.bindsN (ps := ["self", "game"]) fun _ _ _ _ _ _ us hl => match us, hl with | [_, _], _ => rfl
  have V_Yard_m_followers : Vals [] [] := .nil
  obtain ⟨fd_law_is_list, X_law_is_list, G_law_is_list⟩ := D_law_is_list.ex
  have K_law_is_list := X_law_is_list.kp
  have B_law_is_list := X_law_is_list.bindsN (ps := ["told", "due"]) fun _ _ _ _ _ _ us hl => match us, hl with | [_, _], _ => rfl
  have V_law_is_list : Vals [] [] := .nil
  obtain ⟨fd, X⟩ := T.d_law_told
  refine ⟨fd, X, X.ok sc_law_told (fun vs H Q E h => len_law_told h) (fun cdv A outer s H vs Q E hr h => ⟨t_law_told P w K E, PSs.nox ?_, pure_law_told vs H Q E h⟩)⟩
  exact (pss_cons (ps_set (i := 4) sc_law_told.nd rfl (Or.inl rfl) (pe_callB cr_sortedI rfl T.z_sorted (by decide +kernel) (pa_cons (pe_lc (own := [("k", 5)]) (g := (gName 5)) (tt := tYes) rfl sc_law_told.nd (pi_list (pe_call G_law_followers (hr.mono (by decide)) rfl T.g__law_followers K_law_followers B_law_followers V_law_followers pass0 (pa_cons (pv 1) (pa_cons (pv 3) pa_nil)))) (blkOk_by (N := R_law_told) (sc := defScope s_law_told) (by decide +kernel)) (fun _ _ _ _ _ => (pg_name (i := 5) sc_law_told.nd rfl (Or.inl rfl))) (fun _ _ _ _ _ => pts_nil) (fun _ _ _ _ _ => (pe_ix ix_list (pv 2) (pv 5) (fun _ _ => rfl)))) pa_nil)))
      (pss_cons (ps_set (i := 6) sc_law_told.nd rfl (Or.inl rfl) (pe_meth (pv 0) T.cl_Yard T.mt_Yard_followers G_Yard_m_followers (hr.mono (by decide)) B_Yard_m_followers .nil pass0 (pa_cons (pe_ix ix_list (pv 2) (pv 3) (fun _ _ => rfl)) pa_nil)))
      (pss_cons (ps_if (pt_not (pt_val (pe_call G_law_is_list (hr.mono (by decide)) rfl T.g__law_is_list K_law_is_list B_law_is_list V_law_is_list pass0 (pa_cons (pv 6) (pa_cons (pv 4) pa_nil))))) (pss_one (ps_ret pe_bl)) pss_nil)
      (pss_cons (ps_expr (pe_bm0 PySem.F.plainAttrs_list PySem.F.slot_list_reverse PySem.F.type_list_reverse mt_reverse (pv 6)))
      (pss_cons (ps_expr (pe_bm PySem.F.plainAttrs_list PySem.F.slot_list_append PySem.F.type_list_append mt_append (pv 6) (pa_cons (pe_ix ix_list (pv 2) (pv 3) (fun _ _ => rfl)) pa_nil)))
      (pss_cons (ps_expr (pe_bm PySem.F.plainAttrs_list PySem.F.slot_list_pop PySem.F.type_list_pop mt_popAt (pv 6) (pa_cons pe_int pa_nil)))
      (pss_one (ps_ret (pe_call G_law_is_list (hr.mono (by decide)) rfl T.g__law_is_list K_law_is_list B_law_is_list V_law_is_list pass0 (pa_cons (pe_meth (pv 0) T.cl_Yard T.mt_Yard_followers G_Yard_m_followers (hr.mono (by decide)) B_Yard_m_followers .nil pass0 (pa_cons (pe_ix ix_list (pv 2) (pv 3) (fun _ _ => rfl)) pa_nil)) (pa_cons (pv 4) pa_nil)))))))))))
theorem ok_law {P : Program} {w : World} {K : PySem.W.Frag} {mg : Str → Option Value} {base : Heap} (T : Txt K mg) (D_Yard_d_init : O_Yard_d_init P w K mg base) (D_law_cell : O_law_cell P w K mg base) (D_law_family : O_law_family P w K mg base) (D_law_count : O_law_count P w K mg base) (D_law_built : O_law_built P w K mg base) (D_law_told : O_law_told P w K mg base) (D_Yard_m_game : O_Yard_m_game P w K mg base) (D_law_followers : O_law_followers P w K mg base) (D_law_is_list : O_law_is_list P w K mg base) (D_Yard_m_followers : O_Yard_m_followers P w K mg base) : O_law P w K mg base := by
  obtain ⟨fd_Yard_d_init, X_Yard_d_init, G_Yard_d_init⟩ := D_Yard_d_init.ex
  have K_Yard_d_init := X_Yard_d_init.kp
  have B_Yard_d_init := X_Yard_d_init.bindsN (ps := ["self"]) fun _ _ _ _ _ _ us hl => match us, hl with | [_], _ => rfl
  have V_Yard_d_init : Vals [] [] := .nil
  obtain ⟨fd_law_cell, X_law_cell, G_law_cell⟩ := D_law_cell.ex
  have K_law_cell := X_law_cell.kp
  have B_law_cell := X_law_cell.bindsN (ps := ["script", "k"]) fun _ _ _ _ _ _ us hl => match us, hl with | [_, _], _ => rfl
  have V_law_cell : Vals [] [] := .nil
  obtain ⟨fd_law_family, X_law_family, G_law_family⟩ := D_law_family.ex
  have K_law_family := X_law_family.kp
  have B_law_family := X_law_family.bindsN (ps := ["script", "first", "count", "most"]) fun _ _ _ _ _ _ us hl => match us, hl with | [_, _, _, _], _ => rfl
  have V_law_family : Vals [] [] := .nil
  obtain ⟨fd_law_count, X_law_count, G_law_count⟩ := D_law_count.ex
  have K_law_count := X_law_count.kp
  have B_law_count := X_law_count.bindsN (ps := ["cell"]) fun _ _ _ _ _ _ us hl => match us, hl with | [_], _ => rfl
  have V_law_count : Vals [] [] := .nil
  obtain ⟨fd_law_built, X_law_built, G_law_built⟩ := D_law_built.ex
  have K_law_built := X_law_built.kp
  have B_law_built := X_law_built.bindsN (ps := ["yard", "model"]) fun _ _ _ _ _ _ us hl => match us, hl with | [_, _], _ => rfl
  have V_law_built : Vals [] [] := .nil
  obtain ⟨fd_law_told, X_law_told, G_law_told⟩ := D_law_told.ex
  have K_law_told := X_law_told.kp
  have B_law_told := X_law_told.bindsN (ps := ["yard", "model", "numbers", "at"]) fun _ _ _ _ _ _ us hl => match us, hl with | [_, _, _, _], _ => rfl
  have V_law_told : Vals [] [] := .nil
  obtain ⟨fd_Yard_m_game, X_Yard_m_game, G_Yard_m_game⟩ := D_Yard_m_game.ex
  have K_Yard_m_game := X_Yard_m_game.kp
  have B_Yard_m_game := X_Yard_m_game.bindsN (ps := ["self", "lefts", "rights"]) fun _ _ _ _ _ _ us hl => match us, hl with | [_, _, _], _ => rfl
  have V_Yard_m_game : Vals [] [] := .nil
  obtain ⟨fd_law_followers, X_law_followers, G_law_followers⟩ := D_law_followers.ex
  have K_law_followers := X_law_followers.kp
  have B_law_followers := X_law_followers.bindsN (ps := ["model", "at"]) fun _ _ _ _ _ _ us hl => match us, hl with | [_, _], _ => rfl
  have V_law_followers : Vals [] [] := .nil
  obtain ⟨fd_law_is_list, X_law_is_list, G_law_is_list⟩ := D_law_is_list.ex
  have K_law_is_list := X_law_is_list.kp
  have B_law_is_list := X_law_is_list.bindsN (ps := ["told", "due"]) fun _ _ _ _ _ _ us hl => match us, hl with | [_, _], _ => rfl
  have V_law_is_list : Vals [] [] := .nil
  obtain ⟨fd_Yard_m_followers, X_Yard_m_followers, G_Yard_m_followers⟩ := D_Yard_m_followers.ex
  have K_Yard_m_followers := X_Yard_m_followers.kp
  have B_Yard_m_followers := X_Yard_m_followers.bindsN (ps := ["self", "game"]) fun _ _ _ _ _ _ us hl => match us, hl with | [_, _], _ => rfl
  have V_Yard_m_followers : Vals [] [] := .nil
  obtain ⟨fd, X⟩ := T.d_law
  refine ⟨fd, X, X.ok sc_law (fun vs H Q E h => len_law h) (fun cdv A outer s H vs Q E hr h => ⟨t_law P w K E, PSs.nox ?_, pure_law vs H Q E h⟩)⟩
  exact (pss_cons (ps_set (i := 1) sc_law.nd rfl (Or.inl rfl) (pe_make0 T.mk_Yard G_Yard_d_init (hr.mono (by decide)) rfl T.g_Yard B_Yard_d_init V_Yard_d_init pass0))
      (pss_cons (ps_set (i := 2) sc_law.nd rfl (Or.inl rfl) (pe_ifExp (pt_cmpR op_eq (pe_op op_mod (pe_op op_fdiv (pe_callTy cr_intI rfl T.z_int (by decide +kernel) (pa_cons (pe_call G_law_cell (hr.mono (by decide)) rfl T.g__law_cell K_law_cell B_law_cell V_law_cell pass0 (pa_cons (pv 0) (pa_cons pe_int pa_nil))) pa_nil)) pe_int) pe_int) pe_int (nomark _)) pe_int pe_int))
      (pss_cons (ps_set (i := 3) sc_law.nd rfl (Or.inl rfl) (pe_ix ix_tup (pe_call G_law_family (hr.mono (by decide)) rfl T.g__law_family K_law_family B_law_family V_law_family pass0 (pa_cons (pv 0) (pa_cons pe_int (pa_cons (pe_call G_law_count (hr.mono (by decide)) rfl T.g__law_count K_law_count B_law_count V_law_count pass0 (pa_cons (pe_call G_law_cell (hr.mono (by decide)) rfl T.g__law_cell K_law_cell B_law_cell V_law_cell pass0 (pa_cons (pv 0) (pa_cons pe_int pa_nil))) pa_nil)) (pa_cons (pv 2) pa_nil))))) pe_int (fun _ _ => rfl)))
      (pss_cons (ps_set (i := 4) sc_law.nd rfl (Or.inr rfl) (pe_call G_law_built (hr.mono (by decide)) rfl T.g__law_built K_law_built B_law_built V_law_built pass0 (pa_cons (pv 1) (pa_cons (pv 3) pa_nil))))
      (pss_cons (ps_for PassesOwn.never rfl (pi_range1 rfl T.z_range (pa_cons (pe_callB cr_lenQ rfl T.z_len (by decide +kernel) (pa_cons (pv 3) pa_nil)) pa_nil)) (pg_name (i := 5) sc_law.nd rfl (Or.inl rfl))
      (pss_one (ps_if (pt_not (pt_val (pe_call G_law_told (hr.mono (by decide)) rfl T.g__law_told K_law_told B_law_told V_law_told pass0 (pa_cons (pv 1) (pa_cons (pv 3) (pa_cons (pv 4) (pa_cons (pv 5) pa_nil))))))) (pss_one (ps_ret pe_bl)) pss_nil)))
      (pss_cons (ps_set (i := 6) sc_law.nd rfl (Or.inl rfl) (pe_meth (pv 1) T.cl_Yard T.mt_Yard_game G_Yard_m_game (hr.mono (by decide)) B_Yard_m_game .nil pass0 (pa_cons (pe_lst (pa_cons (pe_ix ix_list (pv 4) (pe_un un_neg pe_int) (fun _ _ => rfl)) pa_nil)) (pa_cons (pe_lst pa_nil) pa_nil))))
      (pss_cons (ps_setLc (i := 7) (own := [("k", 8)]) (g := (gName 8)) (tt := tYes) rfl sc_law.nd rfl rfl (sw_true rfl rfl rfl (by decide +kernel)) (pi_list (pe_call G_law_followers (hr.mono (by decide)) rfl T.g__law_followers K_law_followers B_law_followers V_law_followers pass0 (pa_cons (pv 3) (pa_cons (pe_op op_sub (pe_callB cr_lenQ rfl T.z_len (by decide +kernel) (pa_cons (pv 3) pa_nil)) pe_int) pa_nil)))) (blkOk_by (N := R_law) (sc := defScope s_law) (by decide +kernel)) (fun _ _ _ _ _ => (pg_name (i := 8) sc_law.nd rfl (Or.inl rfl))) (fun _ _ _ _ _ => pts_nil) (fun _ _ _ _ _ => (pe_ix ix_list (pv 4) (pv 8) (fun _ _ => rfl))))
      (Evl.pss_cut (ps_if (pt_cmpR op_notIn_seq (pv 6) (pv 7) (by rfl)) (pss_one (ps_expr (pe_bm PySem.F.plainAttrs_list PySem.F.slot_list_append PySem.F.type_list_append mt_append (pv 7) (pa_cons (pv 6) pa_nil)))) pss_nil)
      (pss_cons (ps_if (pt_not (pt_val (pe_call G_law_is_list (hr.mono (by decide)) rfl T.g__law_is_list K_law_is_list B_law_is_list V_law_is_list pass0 (pa_cons (pe_meth (pv 1) T.cl_Yard T.mt_Yard_followers G_Yard_m_followers (hr.mono (by decide)) B_Yard_m_followers .nil pass0 (pa_cons (pv 6) pa_nil)) (pa_cons (pe_callB cr_sortedI rfl T.z_sorted (by decide +kernel) (pa_cons (pv 7) pa_nil)) pa_nil))))) (pss_one (ps_ret pe_bl)) pss_nil)
      (pss_cons (ps_for PassesOwn.never rfl (pi_range1 rfl T.z_range (pa_cons (pe_callB cr_lenQ rfl T.z_len (by decide +kernel) (pa_cons (pv 3) pa_nil)) pa_nil)) (pg_name (i := 5) sc_law.nd rfl (Or.inl rfl))
      (pss_one (ps_if (pt_not (pt_val (pe_call G_law_told (hr.mono (by decide)) rfl T.g__law_told K_law_told B_law_told V_law_told pass0 (pa_cons (pv 1) (pa_cons (pv 3) (pa_cons (pv 4) (pa_cons (pe_op op_sub (pe_op op_sub (pe_callB cr_lenQ rfl T.z_len (by decide +kernel) (pa_cons (pv 3) pa_nil)) pe_int) (pv 5)) pa_nil))))))) (pss_one (ps_ret pe_bl)) pss_nil)))
      (pss_one (ps_ret pe_bl))))))))))))
theorem all_ok {P : Program} {w : World} {K : PySem.W.Frag} {mg : Str → Option Value} {base : Heap} (T : Txt K mg) : O_law P w K mg base := by
  have h_Yard_d_init : O_Yard_d_init P w K mg base := ok_Yard_d_init T 
  have h_law_cell : O_law_cell P w K mg base := ok_law_cell T 
  have h_law_drawn : O_law_drawn P w K mg base := ok_law_drawn T 
  have h_law_digits : O_law_digits P w K mg base := ok_law_digits T 
  have h_law_put : O_law_put P w K mg base := ok_law_put T 
  have h_law_family : O_law_family P w K mg base := ok_law_family T h_law_drawn h_law_digits h_law_cell h_law_put
  have h_law_count : O_law_count P w K mg base := ok_law_count T 
  have h_Yard_m_check : O_Yard_m_check P w K mg base := ok_Yard_m_check T 
  have h_Yard_p_kept : O_Yard_p_kept P w K mg base := ok_Yard_p_kept T 
  have h_Yard_m_game : O_Yard_m_game P w K mg base := ok_Yard_m_game T h_Yard_m_check h_Yard_p_kept
  have h_law_built : O_law_built P w K mg base := ok_law_built T h_Yard_m_game
  have h_law_followers : O_law_followers P w K mg base := ok_law_followers T 
  have h_Yard_m_reached : O_Yard_m_reached P w K mg base := ok_Yard_m_reached T h_Yard_m_check
  have h_Yard_m_followers : O_Yard_m_followers P w K mg base := ok_Yard_m_followers T h_Yard_m_reached
  have h_law_is_integer : O_law_is_integer P w K mg base := ok_law_is_integer T 
  have h_law_all_integers : O_law_all_integers P w K mg base := ok_law_all_integers T h_law_is_integer
  have h_law_is_list : O_law_is_list P w K mg base := ok_law_is_list T h_law_all_integers
  have h_law_told : O_law_told P w K mg base := ok_law_told T h_law_followers h_Yard_m_followers h_law_is_list
  have h_law : O_law P w K mg base := ok_law T h_Yard_d_init h_law_cell h_law_family h_law_count h_law_built h_law_told h_Yard_m_game h_law_followers h_law_is_list h_Yard_m_followers
  exact h_law
def fs : List (PySem.W.Frag → Bool) := [fun K => (He.Fa.glo "Yard").ok K,
  fun K => (He.Fa.glo "_law_all_integers").ok K,
  fun K => (He.Fa.glo "_law_built").ok K,
  fun K => (He.Fa.glo "_law_cell").ok K,
  fun K => (He.Fa.glo "_law_count").ok K,
  fun K => (He.Fa.glo "_law_digits").ok K,
  fun K => (He.Fa.glo "_law_drawn").ok K,
  fun K => (He.Fa.glo "_law_family").ok K,
  fun K => (He.Fa.glo "_law_followers").ok K,
  fun K => (He.Fa.glo "_law_is_integer").ok K,
  fun K => (He.Fa.glo "_law_is_list").ok K,
  fun K => (He.Fa.glo "_law_put").ok K,
  fun K => (He.Fa.glo "_law_told").ok K,
  fun K => (He.Fa.glo "law").ok K,
  fun K => (He.Fa.free "bool").ok K,
  fun K => (He.Fa.free "int").ok K,
  fun K => (He.Fa.free "isinstance").ok K,
  fun K => (He.Fa.free "len").ok K,
  fun K => (He.Fa.free "list").ok K,
  fun K => (He.Fa.free "max").ok K,
  fun K => (He.Fa.free "range").ok K,
  fun K => (He.Fa.free "set").ok K,
  fun K => (He.Fa.free "sorted").ok K,
  fun K => (He.Fa.free "tuple").ok K,
  fun K => (He.Fa.cls "Yard").ok K,
  fun K => (He.Fa.meth "Yard" "_kept").ok K,
  fun K => (He.Fa.meth "Yard" "check").ok K,
  fun K => (He.Fa.meth "Yard" "followers").ok K,
  fun K => (He.Fa.meth "Yard" "game").ok K,
  fun K => (He.Fa.meth "Yard" "reached").ok K,
  fun K => (He.Fa.mkr "Yard").ok K,
  fun K => (He.Fa.noat "Yard" "_heights").ok K,
  fun K => (He.Fa.noat "Yard" "_lefts").ok K,
  fun K => (He.Fa.noat "Yard" "_numbers").ok K,
  fun K => (He.Fa.noat "Yard" "_rights").ok K,
  fun K => (He.Fa.noat "Yard" "_turned").ok K]
def fn : List He5.DefA := [{ at_ := fun K => ad_Yard_d_init K, name := "__init__", qual := "Yard.__init__", params := defArgs s_Yard_d_init, body := defBody s_Yard_d_init, scope := defScope s_Yard_d_init, dfl := [] },
  { at_ := fun K => ad_law_cell K, name := "_law_cell", qual := "_law_cell", params := defArgs s_law_cell, body := defBody s_law_cell, scope := defScope s_law_cell, dfl := [] },
  { at_ := fun K => ad_law_drawn K, name := "_law_drawn", qual := "_law_drawn", params := defArgs s_law_drawn, body := defBody s_law_drawn, scope := defScope s_law_drawn, dfl := [] },
  { at_ := fun K => ad_law_digits K, name := "_law_digits", qual := "_law_digits", params := defArgs s_law_digits, body := defBody s_law_digits, scope := defScope s_law_digits, dfl := [] },
  { at_ := fun K => ad_law_put K, name := "_law_put", qual := "_law_put", params := defArgs s_law_put, body := defBody s_law_put, scope := defScope s_law_put, dfl := [] },
  { at_ := fun K => ad_law_family K, name := "_law_family", qual := "_law_family", params := defArgs s_law_family, body := defBody s_law_family, scope := defScope s_law_family, dfl := [] },
  { at_ := fun K => ad_law_count K, name := "_law_count", qual := "_law_count", params := defArgs s_law_count, body := defBody s_law_count, scope := defScope s_law_count, dfl := [] },
  { at_ := fun K => ad_Yard_m_check K, name := "check", qual := "Yard.check", params := defArgs s_Yard_m_check, body := defBody s_Yard_m_check, scope := defScope s_Yard_m_check, dfl := [] },
  { at_ := fun K => ad_Yard_p_kept K, name := "_kept", qual := "Yard._kept", params := defArgs s_Yard_p_kept, body := defBody s_Yard_p_kept, scope := defScope s_Yard_p_kept, dfl := [] },
  { at_ := fun K => ad_Yard_m_game K, name := "game", qual := "Yard.game", params := defArgs s_Yard_m_game, body := defBody s_Yard_m_game, scope := defScope s_Yard_m_game, dfl := [] },
  { at_ := fun K => ad_law_built K, name := "_law_built", qual := "_law_built", params := defArgs s_law_built, body := defBody s_law_built, scope := defScope s_law_built, dfl := [] },
  { at_ := fun K => ad_law_followers K, name := "_law_followers", qual := "_law_followers", params := defArgs s_law_followers, body := defBody s_law_followers, scope := defScope s_law_followers, dfl := [] },
  { at_ := fun K => ad_Yard_m_reached K, name := "reached", qual := "Yard.reached", params := defArgs s_Yard_m_reached, body := defBody s_Yard_m_reached, scope := defScope s_Yard_m_reached, dfl := [] },
  { at_ := fun K => ad_Yard_m_followers K, name := "followers", qual := "Yard.followers", params := defArgs s_Yard_m_followers, body := defBody s_Yard_m_followers, scope := defScope s_Yard_m_followers, dfl := [] },
  { at_ := fun K => ad_law_is_integer K, name := "_law_is_integer", qual := "_law_is_integer", params := defArgs s_law_is_integer, body := defBody s_law_is_integer, scope := defScope s_law_is_integer, dfl := [] },
  { at_ := fun K => ad_law_all_integers K, name := "_law_all_integers", qual := "_law_all_integers", params := defArgs s_law_all_integers, body := defBody s_law_all_integers, scope := defScope s_law_all_integers, dfl := [] },
  { at_ := fun K => ad_law_is_list K, name := "_law_is_list", qual := "_law_is_list", params := defArgs s_law_is_list, body := defBody s_law_is_list, scope := defScope s_law_is_list, dfl := [] },
  { at_ := fun K => ad_law_told K, name := "_law_told", qual := "_law_told", params := defArgs s_law_told, body := defBody s_law_told, scope := defScope s_law_told, dfl := [] },
  { at_ := fun K => ad_law K, name := "law", qual := "law", params := defArgs s_law, body := defBody s_law, scope := defScope s_law, dfl := [] }]
theorem txt_of {K : PySem.W.Frag} {h : Heap} {mg : Str → Option Value} (X : K.In h) (G : h.Ns mainGlobals mg) (c : SaysM fs fn K) : Txt K mg where
  g_Yard := He.glo_ok X G (c.fact 0 rfl)
  g__law_all_integers := He.glo_ok X G (c.fact 1 rfl)
  g__law_built := He.glo_ok X G (c.fact 2 rfl)
  g__law_cell := He.glo_ok X G (c.fact 3 rfl)
  g__law_count := He.glo_ok X G (c.fact 4 rfl)
  g__law_digits := He.glo_ok X G (c.fact 5 rfl)
  g__law_drawn := He.glo_ok X G (c.fact 6 rfl)
  g__law_family := He.glo_ok X G (c.fact 7 rfl)
  g__law_followers := He.glo_ok X G (c.fact 8 rfl)
  g__law_is_integer := He.glo_ok X G (c.fact 9 rfl)
  g__law_is_list := He.glo_ok X G (c.fact 10 rfl)
  g__law_put := He.glo_ok X G (c.fact 11 rfl)
  g__law_told := He.glo_ok X G (c.fact 12 rfl)
  g_law := He.glo_ok X G (c.fact 13 rfl)
  z_bool := He.free_ok X G (c.fact 14 rfl)
  z_int := He.free_ok X G (c.fact 15 rfl)
  z_isinstance := He.free_ok X G (c.fact 16 rfl)
  z_len := He.free_ok X G (c.fact 17 rfl)
  z_list := He.free_ok X G (c.fact 18 rfl)
  z_max := He.free_ok X G (c.fact 19 rfl)
  z_range := He.free_ok X G (c.fact 20 rfl)
  z_set := He.free_ok X G (c.fact 21 rfl)
  z_sorted := He.free_ok X G (c.fact 22 rfl)
  z_tuple := He.free_ok X G (c.fact 23 rfl)
  cl_Yard := He.cls_ok (c.fact 24 rfl)
  mt_Yard__kept := He.meth_ok (c.fact 25 rfl)
  mt_Yard_check := He.meth_ok (c.fact 26 rfl)
  mt_Yard_followers := He.meth_ok (c.fact 27 rfl)
  mt_Yard_game := He.meth_ok (c.fact 28 rfl)
  mt_Yard_reached := He.meth_ok (c.fact 29 rfl)
  mk_Yard := He.mkr_ok (c.fact 30 rfl)
  na_Yard__heights := He.noat_ok (c.fact 31 rfl)
  na_Yard__lefts := He.noat_ok (c.fact 32 rfl)
  na_Yard__numbers := He.noat_ok (c.fact 33 rfl)
  na_Yard__rights := He.noat_ok (c.fact 34 rfl)
  na_Yard__turned := He.noat_ok (c.fact 35 rfl)
  d_Yard_d_init := c.dfn 0 rfl
  d_law_cell := c.dfn 1 rfl
  d_law_drawn := c.dfn 2 rfl
  d_law_digits := c.dfn 3 rfl
  d_law_put := c.dfn 4 rfl
  d_law_family := c.dfn 5 rfl
  d_law_count := c.dfn 6 rfl
  d_Yard_m_check := c.dfn 7 rfl
  d_Yard_p_kept := c.dfn 8 rfl
  d_Yard_m_game := c.dfn 9 rfl
  d_law_built := c.dfn 10 rfl
  d_law_followers := c.dfn 11 rfl
  d_Yard_m_reached := c.dfn 12 rfl
  d_Yard_m_followers := c.dfn 13 rfl
  d_law_is_integer := c.dfn 14 rfl
  d_law_all_integers := c.dfn 15 rfl
  d_law_is_list := c.dfn 16 rfl
  d_law_told := c.dfn 17 rfl
  d_law := c.dfn 18 rfl
def loose : List PySem.Str := (["_wall", "PlayError", "Unknown", "Yard", "_law_cell", "_law_digits", "_law_is_integer", "_law_put", "_law_drawn", "_law_family", "_law_count", "_law_built", "_law_all_integers", "_law_is_list", "_law_followers", "_law_told"] : List PySem.Str)
abbrev R : PySem.W.OpenRow := PySem.W.OpenLaw.row PySem.Challenge.rw_sumsplay_k11_followers
abbrev hk : PySem.W.Hook := hookM 6 fs fn
def ob (s : PySem.W.SharedT) : He.AlD := obsMG 6 fs fn (HandSHeadRun.getT s)
theorem ob_eq (s : PySem.W.SharedT) : ob s = hk.obs s.abs := obsMG_eq (HandSHeadRun.getT_eq s)
theorem run (w : World) : HandSHeadRun.RunEq R (PySem.W.view R.prog [19]) hk ob 20000 loose w := by
  intro os
  kernel_rfl
theorem facts {P : Program} {w : World} {K : PySem.W.Frag} {h : Heap} {mg : Str → Option Value} {f : Addr} (X : K.In h) (G : h.Ns mainGlobals mg) (hfa : mg ("law" : Str) = some (.ref f)) (c : SaysM fs fn K) (hg : (He.Fa.glo "law").ok K = true) :
    ∃ fd : FuncData, (∀ (s : Shared) (v : Value), BindsTo s fd ⟨[v], []⟩ [("script", v)]) ∧ ∀ base : Heap, K.In base → base.Ns mainGlobals mg → FnOk P w K mg base CX0 5 f fd ["script"] (sp_law P w K) := by
  have T := txt_of X G c
  obtain ⟨fd, F⟩ := T.d_law
  have e := hfa.symm.trans (He.glo_ok X G hg)
  cases e
  have b := FunD.bindsA (ps := ["script"]) F fun _ _ _ _ _ _ us hl => match us, hl with | [_], _ => rfl
  refine ⟨fd, fun s v => b s [v] rfl, fun base _ _ => ?_⟩
  obtain ⟨fd2, F2, G2⟩ := (all_ok (P := P) (w := w) (base := base) T).ex
  have e2 : fd2 = fd := fd_same F2 F
  rw [← e2]; exact G2
end Mine
open PySem PySem.W PySem.Calls PyProof.Rows
set_option maxRecDepth 100000 in
set_option maxHeartbeats 0 in
theorem PySem.Challenge.cw_sumsplay_k11_followers_holds : PySem.Challenge.rw_sumsplay_k11_followers.Holds := by
  w_on; o_law
  refine HandSHeadRun.head_any (r := OpenLaw.row PySem.Challenge.rw_sumsplay_k11_followers) (q := view (OpenLaw.row PySem.Challenge.rw_sumsplay_k11_followers).prog [19]) (H := Mine.hk) (ob := Mine.ob) (M := 20000) (loose := Mine.loose) (d := HandSHeadRun.topDef (OpenLaw.row PySem.Challenge.rw_sumsplay_k11_followers).prog 19) (kwd := []) Mine.ob_eq
    (by kernel_rfl) (fun s => by kernel_rfl) Mine.run (by kernel_rfl) (by kernel_rfl) (by kernel_rfl) (by rfl) (by first | assumption | decide +kernel) (by decide +kernel) ⟨rfl, rfl, rfl, rfl, rfl, by decide +kernel⟩ ?hw ?hc
  case hw => w_witness2
  case hc =>
    refine L2.walk_ofE (l := PySem.Challenge.rw_sumsplay_k11_followers) (n := 63) (k := 5) (x := "script") (CX := L2.CX0) rfl (by decide) (by kernel_rfl) ⟨rfl, by decide, by decide⟩ ?F (fun _ _ _ _ z => z)
    intro w mg fa h Y G hmg0
    obtain ⟨K, KX, c⟩ := Y
    have hmg : mg ("law" : PySem.Str) = some (.ref fa) := by
      have e : (HandSHeadRun.topDef (OpenLaw.row PySem.Challenge.rw_sumsplay_k11_followers).prog 19).name = ("law" : PySem.Str) := by kernel_rfl
      rw [← e]
      exact hmg0
    obtain ⟨fd, hb, hF⟩ := Mine.facts (P := (PySem.Challenge.rw_sumsplay_k11_followers).prog) (w := w) KX G hmg c (c.fact 13 rfl)
    exact ⟨K, fd, Mine.sp_law (PySem.Challenge.rw_sumsplay_k11_followers).prog w K, KX, hb, fun H a ns hl _ hS => ⟨⟨a, ns, rfl, hS⟩, fun v H' e => e⟩, hF⟩
