import PyProof.Rows.All
import Wide.All
import OpenK.AllK
import Wide.FinOn
import HandS.ForMost
import HandS.ForExc
import HandS.Defaults
import HandS.MakeKw
import HandS.MakeKwOnly
import HandS.IsInst
import HandS.Codes
import HandS.Property
import HandS.Evl
import HandS.Steps
import HandS.More
import HandS.WideBits
import HandS.Wide
import HandS.FStr
import HandS.HeadEnd
import HandS.HeadHook2
import HandS.HeadHook4
import HandS.HeadNt
import HandS.Head0
import HandS.Head1
import HandS.Head2
import HandS.ExcIs
import KE.KOpsOwn
import KE.BitLaws
import PySem.Challenge.RW_sumsplay_k06_age
set_option Elab.async false
set_option linter.all false
set_option maxRecDepth 100000
set_option maxHeartbeats 4000000
namespace Mine
open PySem PySem.Spec PyProof.Rows L2
/-! a target o.f -/
section
variable {X : Cx} {o : Expr} {f : Str} {pos : Pos} {ta : TE}
def gFld (K : PySem.W.Frag) (ta : TE) (f : Str) : TG := fun v σ H Q => ta σ H fun x H1 =>
  ∃ a C dx fs, x = V.ref a ∧ H1 a = some (HO.ins C dx fs) ∧ Cls K C ∧ NoAttr K C f ∧ fs.length < 1000 ∧ Q σ (upd H1 a (HO.ins C dx (putF f v fs)))
theorem pg_fld (ho : PE X o ta) : PG X (.Attribute o f pos) (gFld X.K ta f) := by
  constructor
  intro pins s σ H v u Q I rv hw
  rw [assign_Attribute]
  apply wpAny_bind
  apply wpAny_holding
  refine thn (ho.run pins s σ H _ I hw) ?_
  rintro ov s1 ⟨x, H1, I1, rx, a, C, dx, fs, rfl, ea, hc, hn, hl, q⟩
  cases (show ov = Value.ref a from rx)
  apply wpAny_bind
  apply wpAny_standAt
  apply wpAny_bind
  apply wpAny_holding
  refine setattr_ok I1 ea hc hn hl rv ?_
  intro s3 I3
  exact wpAny_release ⟨σ, _, I3, q⟩
end

open Evl (Ex)
/-! readings by short names -/
abbrev rAddI : R2 := rI0 fun i j => .int (i + j)
abbrev rSubI : R2 := rI0 fun i j => .int (i - j)
abbrev rMulI : R2 := rI CMul fun i j => .int (i * j)
abbrev rDivI : R2 := rI CDiv fun i j => .int (i / j)
abbrev rDivW : R2 := rI CDivW fun i j => .int (i / j)
abbrev rMulW : R2 := rI CMulW fun i j => .int (i * j)
abbrev rModI : R2 := rI (fun _ j => 0 < j) fun i j => .int (i % j)
abbrev rPowI : R2 := rI CPow fun i j => .int (i ^ j.toNat)
abbrev rShlI : R2 := rI CPow fun i j => .int (i * 2 ^ j.toNat)
abbrev rShrI : R2 := rI (fun _ j => 0 ≤ j) fun i j => .int (i / 2 ^ j.toNat)
abbrev rAndI : R2 := rI0 fun i j => .int (Builtin.bitAnd i j)
abbrev rOrI : R2 := rI0 fun i j => .int (Builtin.bitOr i j)
abbrev rXorI : R2 := rI0 fun i j => .int (Builtin.bitXor i j)
abbrev rLtI : R2 := rI0 fun i j => .bl (decide (i < j))
abbrev rLeI : R2 := rI0 fun i j => .bl (decide (i ≤ j))
abbrev rGtI : R2 := rI0 fun i j => .bl (decide (j < i))
abbrev rGeI : R2 := rI0 fun i j => .bl (decide (j ≤ i))
abbrev rNegI : V → Hp → VK → Prop := rU fun i => .int (-i)
def rIsTy : R2 := fun x y H Q => ∃ a b, x = V.ty a ∧
  y = V.ty b ∧ Q (.bl (decide (a = b))) H
def rIntI : List V → Hp → VK → Prop := fun xs H Q => ∃ i, xs = [V.int i] ∧ Q (.int i) H
def rAbsI : List V → Hp → VK → Prop := fun xs H Q => ∃ i, xs = [V.int i] ∧ Q (.int (if i < 0 then -i else i)) H
def rMax2 : List V → Hp → VK → Prop := fun xs H Q => ∃ i j, xs = [V.int i, V.int j] ∧
  Q (.int (if j > i then j else i)) H
def rMin2 : List V → Hp → VK → Prop := fun xs H Q => ∃ i j, xs = [V.int i, V.int j] ∧
  Q (.int (if j < i then j else i)) H
def rLenQ (K : PySem.W.Frag) : List V → Hp → VK → Prop := fun xs H Q => ∃ p ys, xs = [V.ref p] ∧
  (SqL K H p ys ∨ SqT K H p ys) ∧ Q (.int ys.length) H
def rLenS : List V → Hp → VK → Prop := fun xs H Q => ∃ z, xs = [V.str z] ∧ z.length ≤ sizeLine ∧
  Q (.int z.length) H
def rListQ (K : PySem.W.Frag) : List V → Hp → VK → Prop := fun xs H Q => ∃ p ys, xs = [V.ref p] ∧
  (SqL K H p ys ∨ SqT K H p ys) ∧ ∀ l, H l = none → Q (.ref l) (upd H l (.lst ys))
def rStrI : List V → Hp → VK → Prop := fun xs H Q => ∃ i, xs = [V.int i] ∧ i.natAbs.log2 < 1920 ∧
  Q (.str (toString i)) H
def rIsC (C : Addr) : List V → Hp → VK → Prop := fun xs H Q => ∃ a dx fs, xs = [V.ref a, V.ref C] ∧
  H a = some (HO.ins C dx fs) ∧ Q (.bl true) H
def rCatS : R2 := fun x y H Q => ∃ i j, x = V.str i ∧ y = V.str j ∧ i.length + j.length ≤ sizeLine ∧
  Q (.str (i ++ j)) H
section
variable {X : Cx}
theorem cr_intI : CallR X (.type "int") rIntI := fun pins s σ H xs us Q I r h =>
  call_int1 pins s σ H xs us Q I r (Or.inl h)
theorem cr_absI : CallR X (.builtin "abs") rAbsI := call_abs
theorem cr_max2 (hc : X.calm = true) : CallR X (.builtin "max") rMax2 := call_max2 hc
theorem cr_min2 (hc : X.calm = true) : CallR X (.builtin "min") rMin2 := call_min2 hc
theorem cr_lenQ : CallR X (.builtin "len") (rLenQ X.K) := call_len_seq
theorem cr_lenS : CallR X (.builtin "len") rLenS := call_len_str
theorem cr_listQ : CallR X (.type "list") (rListQ X.K) := call_list_of
theorem cr_strI : CallR X (.type "str") rStrI := call_str_int
theorem cr_isC {C : Addr} (c : C8.InsC X.K C) : CallR X (.builtin "isinstance") (rIsC C) := C8.call_isC c
theorem cst_ok {x : Str} {i : Int} (h : ∃ t, X.mg x = some (.int i t)) : ∃ u, X.mg x = some u ∧ RelV (.int i) u :=
  let ⟨t, e⟩ := h
  ⟨_, e, t, rfl⟩
end
/-! promises: what is asked, what is given, what is raised -/
def spR (pre : List V → Hp → Prop) (post : List V → Hp → V → Hp → Prop) : Sp := fun vs H Q _ =>
  pre vs H ∧ ∀ v H', post vs H v H' → Q v H'
def spX (pre : List V → Hp → Prop) (post : List V → Hp → V → Hp → Prop) (ex : List V → Hp → Value → Option Addr → Hp → Prop) : Sp := fun vs H Q E =>
  pre vs H ∧ (∀ v H', post vs H v H' → Q v H') ∧ ∀ c d H', ex vs H c d H' → E c d H'
structure DefOk (P : Program) (w : World) (K : PySem.W.Frag) (mg : Str → Option Value) (base : Heap) (CX : CXT) (k : Nat) (x qual : Str) (st : Stmt) (dvs : List V) (f : Addr) (ps : List Str) (sp : Sp) : Prop where
  ex : ∃ fd, FunD K x qual (defArgs st) (defBody st) (defScope st) dvs [] f fd ∧ FnOk P w K mg base CX k f fd ps sp
/-! readings, step by step, forwards -/
section
variable {σ : L2.St} {H : Hp} {Q : VK} {ta tb tc te tv : TE} {K : PySem.W.Frag} {D : Ends}
theorem k_var {i : Nat} {v : V} (h : σ[i]? = some (some v)) (q : Q v H) : tVar i σ H Q := ⟨v, h, q⟩
theorem k_c {v : V} (q : Q v H) : tC v σ H Q := q
theorem k_op {r : R2} (q : ta σ H fun x H1 => tb σ H1 fun y H2 => r x y H2 Q) : tOp r ta tb σ H Q := q
theorem k_un {r : V → Hp → VK → Prop} (q : ta σ H fun x H1 => r x H1 Q) : tUn r ta σ H Q := q
theorem k_I0 {g : Int → Int → V} {i j : Int} (q : Q (g i j) H) : rI0 g (.int i) (.int j) H Q := ⟨i, j, rfl, rfl, q⟩
theorem k_I {C : Int → Int → Prop} {g : Int → Int → V} {i j : Int} (c : C i j) (q : Q (g i j) H) : rI C g (.int i) (.int j) H Q := ⟨i, j, rfl, rfl, c, q⟩
theorem k_U {g : Int → V} {i : Int} (q : Q (g i) H) : rU g (.int i) H Q := ⟨i, rfl, q⟩
theorem k_eq {x y : V} (s : scal x y = true) (q : Q (.bl (decide (x = y))) H) : rEq x y H Q := ⟨s, q⟩
theorem k_ne {x y : V} (s : scal x y = true) (q : Q (.bl (!decide (x = y))) H) : rNe x y H Q := ⟨s, q⟩
theorem k_eqI {i j : Int} (q : Q (.bl (decide (i = j))) H) : rEq (.int i) (.int j) H Q := ⟨rfl, by
  have e : decide (V.int i = V.int j) = decide (i = j) := by simp
  rw [e]; exact q⟩
theorem k_eqB {i j : Bool} (q : Q (.bl (decide (i = j))) H) : rEq (.bl i) (.bl j) H Q := ⟨rfl, by
  have e : decide (V.bl i = V.bl j) = decide (i = j) := by simp
  rw [e]; exact q⟩
theorem k_neI {i j : Int} (q : Q (.bl (decide (i ≠ j))) H) : rNe (.int i) (.int j) H Q := ⟨rfl, by
  have e : (!decide (V.int i = V.int j)) = decide (i ≠ j) := by simp
  rw [e]; exact q⟩
theorem k_isTy {a b : String} (q : Q (.bl (decide (a = b))) H) : rIsTy (.ty a) (.ty b) H Q := ⟨a, b, rfl, rfl, q⟩
theorem k_isN {x : V} (q : Q (.bl (decide (x = .non))) H) : rIsN x .non H Q := ⟨rfl, q⟩
theorem k_notN {x : V} (q : Q (.bl (!decide (x = .non))) H) : rNotN x .non H Q := ⟨rfl, q⟩
theorem k_ixL {p : Addr} {xs : List V} {i : Int} {v : V} (h : SqL K H p xs) (e : atI xs i = some v) (q : Q v H) : rIxL K (.ref p) (.int i) H Q := ⟨p, xs, i, v, rfl, rfl, h, e, q⟩
theorem k_ixT {p : Addr} {xs : List V} {i : Int} {v : V} (h : SqT K H p xs) (e : atI xs i = some v) (q : Q v H) : rIxT K (.ref p) (.int i) H Q := ⟨p, xs, i, v, rfl, rfl, h, e, q⟩
theorem k_andV (q : ta σ H fun x H1 => ∃ c, x = .bl c ∧ if c = true then tb σ H1 Q else Q (.bl false) H1) : tAndV ta tb σ H Q := q
theorem k_orV (q : ta σ H fun x H1 => ∃ c, x = .bl c ∧ if c = true then Q (.bl true) H1 else tb σ H1 Q) : tOrV ta tb σ H Q := q
theorem k_notV (q : ta σ H fun x H1 => ∃ c, x = .bl c ∧ Q (.bl (!c)) H1) : tNotV ta σ H Q := q
theorem k_if {t : TT} (q : t σ H fun c H1 => if c = true then ta σ H1 Q else tb σ H1 Q) : tIf t ta tb σ H Q := q
theorem k_chain {r r' : R2} (q : ta σ H fun x H1 => tb σ H1 fun y H2 => r x y H2 fun z H3 => ∃ k, z = .bl k ∧ (if k = true then tc σ H3 fun w' H4 => r' y w' H4 Q else Q (.bl false) H3)) : tChain r r' ta tb tc σ H Q := q
theorem k_bl {P : Bool → Prop} {c : Bool} (q : P c) : ∃ k, V.bl c = V.bl k ∧ P k := ⟨c, rfl, q⟩
theorem k_tup {t : TA} (q : t σ H fun xs H1 => xs.length ≤ sizeLine ∧ ∀ p, H1 p = none → Q (.ref p) (upd H1 p (.tup xs))) : tTup t σ H Q := q
theorem k_lst {t : TA} (q : t σ H fun xs H1 => xs.length ≤ sizeLine ∧ ∀ p, H1 p = none → Q (.ref p) (upd H1 p (.lst xs))) : tLst t σ H Q := q
theorem k_cb {r : List V → Hp → VK → Prop} {t : TA} (q : t σ H fun vs H1 => r vs H1 Q) : tCB r t σ H Q := q
theorem k_nil {R : List V → Hp → Prop} (q : R [] H) : tNil σ H R := q
theorem k_cons {t : TA} {R : List V → Hp → Prop} (q : ta σ H fun x H1 => t σ H1 fun xs H2 => R (x :: xs) H2) : tCons ta t σ H R := q
theorem k_rInt {i : Int} (q : Q (.int i) H) : rIntI [.int i] H Q := ⟨i, rfl, q⟩
theorem k_rAbs {i : Int} (q : Q (.int (if i < 0 then -i else i)) H) : rAbsI [.int i] H Q := ⟨i, rfl, q⟩
theorem k_rMax {i j : Int} (q : Q (.int (if j > i then j else i)) H) : rMax2 [.int i, .int j] H Q := ⟨i, j, rfl, q⟩
theorem k_rMin {i j : Int} (q : Q (.int (if j < i then j else i)) H) : rMin2 [.int i, .int j] H Q := ⟨i, j, rfl, q⟩
theorem k_rLenL {p : Addr} {ys : List V} (h : SqL K H p ys) (q : Q (.int ys.length) H) : rLenQ K [.ref p] H Q := ⟨p, ys, rfl, Or.inl h, q⟩
theorem k_rLenT {p : Addr} {ys : List V} (h : SqT K H p ys) (q : Q (.int ys.length) H) : rLenQ K [.ref p] H Q := ⟨p, ys, rfl, Or.inr h, q⟩
theorem k_rStr {i : Int} (h : i.natAbs.log2 < 1920) (q : Q (.str (toString i)) H) : rStrI [.int i] H Q := ⟨i, rfl, h, q⟩
theorem k_rIsC {C a dx : Addr} {fs : List (Str × V)} (h : H a = some (.ins C dx fs)) (q : Q (.bl true) H) : rIsC C [.ref a, .ref C] H Q := ⟨a, dx, fs, rfl, h, q⟩
theorem k_isi {x c : V} {t u : Value} {b : Bool} (hc : ClsV c u) (ht : TyX K H x t) (e : PySem.W.kitOne K t u = some b) (q : Q (.bl b) H) : rIsi K [x, c] H Q := ⟨x, c, t, u, b, rfl, hc, ht, e, q⟩
theorem k_fld {a C dx : Addr} {fs : List (Str × V)} {f : Str} {v : V} (ha : ta σ H fun x H1 => x = .ref a ∧ H1 a = some (.ins C dx fs) ∧ Cls K C ∧ NoAttr K C f ∧ fs.lookup f = some v ∧ Q v H1)
    (mono : ∀ Q1 Q2 : VK, (∀ x H1, Q1 x H1 → Q2 x H1) → ta σ H Q1 → ta σ H Q2) : tFld K ta f σ H Q :=
  mono _ _ (fun _ _ ⟨h1, h2, h3, h4, h5, h6⟩ => ⟨a, C, dx, fs, v, h1, h2, h3, h4, h5, h6⟩) ha
theorem k_call {sp : Sp} {dvs : List V} {E : XK} {t : TA} (q : t σ H fun vs H1 => sp (vs ++ dvs) H1 Q E) : tCall sp dvs E t σ H Q := q
theorem k_meth {C : Addr} {m : Str} {sp : Sp} {dvs : List V} {E : XK} {t : TA} (q : ta σ H fun x H1 => ∃ a dx fs, x = .ref a ∧ H1 a = some (.ins C dx fs) ∧ fs.lookup m = none ∧ t σ H1 fun vs H2 => sp (x :: (vs ++ dvs)) H2 Q E) : tMeth C m sp dvs E ta t σ H Q := q
theorem k_make {C : Addr} {sp : Sp} {dvs : List V} {E : XK} {t : TA} (q : t σ H fun vs H1 => ∀ x dx, H1 x = none → H1 dx = none → dx ≠ x → sp (.ref x :: (vs ++ dvs)) (upd (upd H1 dx (.own x)) x (.ins C dx [])) (fun v H2 => v = .non ∧ Q (.ref x) H2) E) : tMake C sp dvs E t σ H Q := q
theorem k_prop {C : Addr} {sp : Sp} {dvs : List V} {E : XK} (q : ta σ H fun x H1 => ∃ a dx fs, x = .ref a ∧ H1 a = some (.ins C dx fs) ∧ sp (.ref a :: dvs) H1 Q E) : tProp C sp dvs E ta σ H Q := q
/-! tests -/
variable {t u : TT} {R : Bool → Hp → Prop}
theorem k_test (q : te σ H fun x H' => ∃ k, x = .bl k ∧ R k H') : tTest te σ H R := q
theorem k_B (q : te σ H fun x H' => ∃ k, x = .bl k ∧ R k H') : tB te σ H R := q
theorem k_and (q : t σ H fun c H1 => if c = true then u σ H1 R else R false H1) : tAnd t u σ H R := q
theorem k_or (q : t σ H fun c H1 => if c = true then R true H1 else u σ H1 R) : tOr t u σ H R := q
theorem k_not (q : t σ H fun c H1 => R (!c) H1) : tNot t σ H R := q
/-! statements -/
variable {t1 t2 : TS} {g : TG}
theorem k_seq (q : t1 { D with nx := t2 D } σ H) : tSeq t1 t2 D σ H := q
theorem k_next (q : D.nx σ H) : tNext D σ H := q
theorem k_asg (q : te σ H fun x H1 => g x σ H1 D.nx) : tAsg te g D σ H := q
theorem k_name {i : Nat} {v : V} {R : L2.St → Hp → Prop} (q : R (σ.set i (some v)) H) : gName i v σ H R := q
theorem k_ret (q : te σ H D.rt) : tRet te D σ H := q
theorem k_drop (q : te σ H fun _ H1 => D.nx σ H1) : tDrop te D σ H := q
theorem k_ifS (q : t σ H fun b H1 => if b = true then t1 D σ H1 else t2 D σ H1) : tIfS t t1 t2 D σ H := q
theorem k_gtup {n : Nat} {tg : TGs} {a : Addr} {xs : List V} {R : L2.St → Hp → Prop} (h : SqT K H a xs) (l : xs.length = n) (q : tg xs σ H R) : gTup K n tg (.ref a) σ H R := ⟨a, xs, rfl, h, l, q⟩
theorem k_gcons {tg : TG} {tr : TGs} {v : V} {r : List V} {R : L2.St → Hp → Prop} (q : tg v σ H fun σ' H' => tr r σ' H' R) : gCons tg tr (v :: r) σ H R := ⟨v, r, rfl, q⟩
theorem k_gnil {R : L2.St → Hp → Prop} (q : R σ H) : gNil [] σ H R := ⟨rfl, q⟩
theorem k_gfld {a C dx : Addr} {i : Nat} {fs : List (Str × V)} {f : Str} {v : V} {R : L2.St → Hp → Prop} (hs : σ[i]? = some (some (.ref a))) (h : H a = some (.ins C dx fs)) (hc : Cls K C) (hn : NoAttr K C f) (hl : fs.length < 1000) (q : R σ (upd H a (.ins C dx (putF f v fs)))) : gFld K (tVar i) f v σ H R :=
  ⟨_, hs, a, C, dx, fs, rfl, h, hc, hn, hl, q⟩
theorem k_fldv {a C dx : Addr} {i : Nat} {fs : List (Str × V)} {f : Str} {v : V} (hs : σ[i]? = some (some (.ref a))) (h : H a = some (.ins C dx fs)) (hc : Cls K C) (hn : NoAttr K C f) (hl : fs.lookup f = some v) (q : Q v H) : tFld K (tVar i) f σ H Q :=
  ⟨_, hs, a, C, dx, fs, v, rfl, h, hc, hn, hl, q⟩
theorem k_iteT {A B : Prop} (q : A) : if true = true then A else B := q
theorem k_iteF {A B : Prop} (q : B) : if false = true then A else B := by simpa using q
theorem k_pow12 (q : Q (.int 1000000000000) H) : rPowI (.int 10) (.int 12) H Q := k_I ⟨by decide, by decide, by decide⟩ q
theorem k_pow11 (q : Q (.int 100000000000) H) : rPowI (.int 10) (.int 11) H Q := k_I ⟨by decide, by decide, by decide⟩ q
theorem k_pow9 (q : Q (.int 1000000000) H) : rPowI (.int 10) (.int 9) H Q := k_I ⟨by decide, by decide, by decide⟩ q
theorem k_pow30 (q : Q (.int 1000000000000000000000000000000) H) : rPowI (.int 10) (.int 30) H Q := k_I ⟨by decide, by decide, by decide⟩ q
theorem k_pow18 (q : Q (.int 1000000000000000000) H) : rPowI (.int 10) (.int 18) H Q := k_I ⟨by decide, by decide, by decide⟩ q
theorem k_minL {i j : Int} (q : ∀ m, m ≤ i → m ≤ j → (m = i ∨ m = j) → Q (.int m) H) : rMin2 [.int i, .int j] H Q := by
  refine ⟨i, j, rfl, ?_⟩
  by_cases h : j < i
  · rw [if_pos h]; exact q j (by omega) (by omega) (Or.inr rfl)
  · rw [if_neg h]; exact q i (by omega) (by omega) (Or.inl rfl)
theorem k_maxL {i j : Int} (q : ∀ m, i ≤ m → j ≤ m → (m = i ∨ m = j) → Q (.int m) H) : rMax2 [.int i, .int j] H Q := by
  refine ⟨i, j, rfl, ?_⟩
  by_cases h : j > i
  · rw [if_pos h]; exact q j (by omega) (by omega) (Or.inr rfl)
  · rw [if_neg h]; exact q i (by omega) (by omega) (Or.inl rfl)
theorem k_shl1 {j : Int} (h : 0 ≤ j ∧ j ≤ 1000000) (q : ∀ m : Int, 1 ≤ m → m = 2 ^ j.toNat → Q (.int m) H) : rShlI (.int 1) (.int j) H Q := by
  refine k_I ⟨h.1, h.2, by decide⟩ ?_
  rw [Int.one_mul]
  refine q _ ?_ rfl
  have hp : (0 : Int) < 2 ^ j.toNat := Int.pow_pos (by decide)
  omega
theorem k_iteNT {A B : Prop} (q : B) : if (!true) = true then A else B := by simpa using q
theorem k_iteNF {A B : Prop} (q : A) : if (!false) = true then A else B := by simpa using q
theorem k_raise {E : XK} {c : Value} (q : E c none H) : tRaise E c D σ H := q
theorem k_iteD {p A B : Prop} [Decidable p] (h1 : p → A) (h2 : ¬ p → B) : if decide p = true then A else B := by
  by_cases h : p
  · rw [if_pos (decide_eq_true h)]; exact h1 h
  · rw [if_neg (by simpa using h)]; exact h2 h
theorem k_iteN {p A B : Prop} [Decidable p] (h1 : ¬ p → A) (h2 : p → B) : if (!decide p) = true then A else B := by
  by_cases h : p
  · rw [if_neg (by simpa using h)]; exact h2 h
  · rw [if_pos (by simpa using h)]; exact h1 h
theorem k_iteB {b : Bool} {A B : Prop} (h1 : b = true → A) (h2 : b = false → B) : if b = true then A else B := by
  cases b
  · rw [if_neg (by decide)]; exact h2 rfl
  · exact h1 rfl
theorem k_sq {a : Addr} {xs : List V} (h : H a = some (.lst xs)) : SqL K H a xs := Or.inl (Or.inl h)
theorem k_st {a : Addr} {xs : List V} (h : H a = some (.tup xs)) : SqT K H a xs := Or.inl (Or.inl h)
theorem k_while (W : Nat → L2.St → Hp → Prop) (m0 : Nat) (h0 : W m0 σ H)
    (hs : ∀ m σ H, W m σ H → t σ H fun b H1 => if b = true then ∃ N : L2.St → Hp → Prop, (∀ σ' H', N σ' H' → ∃ m', m' < m ∧ W m' σ' H') ∧
      t1 { D with nx := N, ct := N, bk := D.nx } σ H1 else D.nx σ H1) : tWhile t t1 D σ H := ⟨W, ⟨m0, h0⟩, hs⟩
/-- what a loop asks, by a word of its turns -/
def forK (g : TG) (tb : TS) (D : Ends) (σ : L2.St) : It → Hp → Prop := fun J H1 =>
  ∃ W : Nat → Nat → L2.St → Hp → Prop, (∃ m, W 0 m σ H1) ∧
    ∀ i m σ H, W i m σ H → (J.stop i H ∧ D.nx σ H) ∨ (J.go i H ∧
      ∃ N : L2.St → Hp → Prop, (∀ σ' H', N σ' H' → ∃ m', m' < m ∧ W (i + 1) m' σ' H') ∧
        ∀ x H', J.yld i H x H' → g x σ H' fun σ2 H2 => tb { D with nx := N, ct := N, bk := D.nx } σ2 H2)
theorem k_for {wi : TI} {g : TG} {tb : TS} (q : wi σ H (forK g tb D σ)) : tFor wi g tb D σ H := q
theorem k_rng1 {ta : TA} {R : It → Hp → Prop} (q : ta σ H fun vs H1 => ∃ j : Int, vs = [.int j] ∧
  -(2 ^ 62) ≤ j ∧ j < 2 ^ 62 ∧ R (Itr 0 j.toNat) H1) : iRng1 ta σ H R := q
theorem k_rng2 {ta : TA} {R : It → Hp → Prop} (q : ta σ H fun vs H1 => ∃ i j : Int, vs = [.int i, .int j] ∧
  (-(2 ^ 62) ≤ i ∧ i < 2 ^ 62 ∧ -(2 ^ 62) ≤ j ∧ j < 2 ^ 62) ∧ R (Itr i (j - i).toNat) H1) : iRng2 ta σ H R := q
theorem k_ilist {tl : TE} {R : It → Hp → Prop} (q : tl σ H fun x H1 => ∃ a, x = .ref a ∧
  (∃ xs, SqL K H1 a xs) ∧ R (Itl K a) H1) : iList K tl σ H R := q
theorem k_itup {tl : TE} {R : It → Hp → Prop} (q : tl σ H fun x H1 => ∃ a, x = .ref a ∧
  (∃ xs, SqT K H1 a xs) ∧ R (Itt K a) H1) : iTup K tl σ H R := q
theorem forK_range {g : TG} {tb : TS} {n : Nat} (Pv : Nat → L2.St → Hp → Prop) (h0 : Pv 0 σ H)
    (hs : ∀ (i : Nat) σ' H', i < n → Pv i σ' H' → g (.int (i : Int)) σ' H' fun σ2 H2 => tb { D with nx := Pv (i + 1), ct := Pv (i + 1), bk := D.nx } σ2 H2)
    (hd : ∀ σ' H', Pv n σ' H' → D.nx σ' H') : forK g tb D σ (Itr 0 n) H := by
  refine for_range (lo := 0) (n := n) Pv h0 (fun i σ' H' hi p => ?_) hd
  have e0 : (0 : Int) + (i : Int) = (i : Int) := Int.zero_add _
  rw [e0]
  exact hs i σ' H' hi p
theorem forK_list {g : TG} {tb : TS} {a : Addr} {xs : List V} (Pv : Nat → L2.St → Hp → Prop) (h0 : Pv 0 σ H)
    (hl : ∀ i σ' H', i ≤ xs.length → Pv i σ' H' → SqL K H' a xs)
    (hs : ∀ i x σ' H', xs[i]? = some x → Pv i σ' H' → g x σ' H' fun σ2 H2 => tb { D with nx := Pv (i + 1), ct := Pv (i + 1), bk := D.nx } σ2 H2)
    (hd : ∀ σ' H', Pv xs.length σ' H' → D.nx σ' H') : forK g tb D σ (Itl K a) H := for_list Pv h0 hl hs hd
end
section
variable {σ : L2.St} {H : Hp} {Q : VK} {ta te : TE} {K : PySem.W.Frag}
theorem k_bm {T : String} {r : V → List V → Hp → VK → Prop} {t : TA} (q : ta σ H fun x H1 => tyV K T x H1 ∧
  t σ H1 fun xs H2 => r x xs H2 Q) : tBM K T r ta t σ H Q := q
theorem k_bm0 {T : String} {r : V → List V → Hp → VK → Prop} (q : ta σ H fun x H1 => tyV K T x H1 ∧ r x [] H1 Q) : tBM0 K T r ta σ H Q := q
theorem k_tyl {l : Addr} {xs : List V} {P : Prop} (h : SqL K H l xs) (q : P) : tyV K "list" (.ref l) H ∧ P := ⟨Or.inl ⟨rfl, xs, h⟩, q⟩
theorem k_rApp {l : Addr} {xs : List V} {y : V} (h : H l = some (.lst xs)) (z : xs.length < sizeLine) (q : Q .non (upd H l (.lst (xs ++ [y])))) : rAppend (.ref l) [y] H Q := ⟨l, xs, y, rfl, rfl, h, z, q⟩
theorem k_sizeL {α : Type} {xs : List α} {f : α → V} (h : xs.length ≤ 100000) : (xs.map f).length < sizeLine := by
  rw [List.length_map]; exact Nat.lt_of_le_of_lt h (by decide)
end
section
variable {σ : L2.St} {H : Hp} {t u : TS} {D : Ends}
theorem k_cut (Mid : L2.St → Hp → Prop) (h : t { D with nx := Mid } σ H) (r : ∀ σ' H', Mid σ' H' → u D σ' H') : Evl.tCut t u D σ H := ⟨Mid, h, r⟩
end
theorem tr_step {H H' : Hp} {a : Addr} {o : HO} (e : Ex H H') (h : H a = some o) : H' a = some o := e a o h
section
variable {X : Cx} {CX : CXT} {k : Nat} {f C : Addr} {fd : FuncData} {ps : List Str} {sp : Sp} {E : XK}
/-- x op y, both instances of the class at C -/
def rMine (C : Addr) (sp : Sp) (E : XK) : R2 := fun x y H Q => ∃ a dx fs b dy gs,
  x = V.ref a ∧ y = V.ref b ∧ H a = some (HO.ins C dx fs) ∧ H b = some (HO.ins C dy gs) ∧ sp [x, y] H Q E
def rMine1 (C : Addr) (sp : Sp) (E : XK) : V → Hp → VK → Prop := fun x H Q => ∃ a dx fs,
  x = V.ref a ∧ H a = some (HO.ins C dx fs) ∧ sp [x] H Q E
theorem back_of {z : V} {u : Value} {s' : Shared} {R : Value → Shared → Prop} (r : RelV z u) (q : R u s') : PySem.W.CmpBack R u s' := by
  cases z with
  | non => cases r; exact q
  | bl b => cases r; exact q
  | int i => obtain ⟨t, rfl⟩ := r; exact q
  | str i => obtain ⟨t, rfl⟩ := r; exact q
  | byt i => obtain ⟨t, rfl⟩ := r; exact q
  | flt i => obtain ⟨t, rfl⟩ := r; exact q
  | ref a => cases r; exact q
  | ty n => cases r; exact q
theorem op_mine {op : Operator} (hc : PySem.W.selfFirst X.K C = true) (hm : Meth X.K C (PySem.dunder op.info.2) f) (F : FnOk X.prog X.w X.K X.mg X.base CX k f fd ps sp) (hr : Room k X.A) (hb : Binds X.K fd ps []) (hx : Passes CX X E) :
    OpR X (binaryOp op) (rMine C sp E) := by
  rintro pins s σ H x y v u Q I rx ry ⟨a, dx, fs, b, dy, gs, rfl, rfl, ha, hb', q⟩
  cases (show v = Value.ref a from rx)
  cases (show u = Value.ref b from ry)
  obtain ⟨mA, O, _⟩ := ins_get I.hok ha
  obtain ⟨mB, O', _⟩ := ins_get I.hok hb'
  obtain ⟨od, J, _⟩ := O.look
  obtain ⟨od', J', _⟩ := O'.look
  obtain ⟨m, hF⟩ := I.fr
  refine PySem.W.binop_K hF I.ok.mod.kin J J'.type hc hm.at_ hm.fn ?_
  refine wpAny_mono (run_fn (us := [.ref a, .ref b]) (vs := [.ref a, .ref b]) (dvs := []) (ds := []) F hr hb .nil hx I (.cons rfl (.cons rfl .nil)) q) ?_ (fun _ _ z => z)
  rintro u' s' ⟨z, H', I', rz, qz⟩
  exact back_of (R := EP X pins σ Q) rz ⟨z, H', I', rz, qz⟩
theorem un_mine (hm : Meth X.K C "__neg__" f) (F : FnOk X.prog X.w X.K X.mg X.base CX k f fd ps sp) (hr : Room k X.A) (hb : Binds X.K fd ps []) (hx : Passes CX X E) :
    UnR X (unaryOp .USub) (rMine1 C sp E) := by
  rintro pins s σ H x v Q I rx ⟨a, dx, fs, rfl, ha, q⟩
  cases (show v = Value.ref a from rx)
  obtain ⟨mA, O, _⟩ := ins_get I.hok ha
  obtain ⟨od, J, _⟩ := O.look
  obtain ⟨m, hF⟩ := I.fr
  refine PySem.W.ksp_neg hF I.ok.mod.kin J hm.at_ hm.fn ?_
  exact run_fn (us := [.ref a]) (vs := [.ref a]) (dvs := []) (ds := []) F hr hb .nil hx I (.cons rfl .nil) q
end
/-! small facts -/
theorem get_int {ns : List Int} {i : Nat} {y : V} (h : (ns.map V.int)[i]? = some y) : ∃ z, ns[i]? = some z ∧ y = .int z := by
  rw [List.getElem?_map] at h
  cases e : ns[i]? with
  | none => rw [e] at h; cases h
  | some z => rw [e] at h; exact ⟨z, rfl, (Option.some.inj h).symm⟩
theorem at_int {ns : List Int} {k : Int} (h0 : 0 ≤ k) (h1 : k < ns.length) : ∃ z, ns[k.toNat]? = some z ∧ atI (ns.map V.int) k = some (.int z) := by
  have hk : k.toNat < ns.length := by omega
  refine ⟨ns[k.toNat], by simp [hk], ?_⟩
  have e : ((k.toNat : Nat) : Int) = k := by omega
  have z : atI (ns.map V.int) ((k.toNat : Nat) : Int) = some (V.int ns[k.toNat]) := atI_nat (by simp [hk])
  rw [e] at z
  exact z
theorem ex_of {H H' : Hp} (e : H' = H) : Ex H H' := by rw [e]; exact Evl.Ex.refl H
theorem ex_upd {H : Hp} {p : Addr} {o : HO} (h : H p = none) : Ex H (upd H p o) := Evl.Ex.new h
theorem two_le : ∀ a b : V, [a, b].length ≤ sizeLine := fun _ _ => by show 2 ≤ sizeLine; decide
end Mine
namespace Mine
open PySem PySem.Spec PyProof.Rows L2
open PySem.W (Frag)
/-! the facts of the head: a list of tests of the written part, and the defs -/
def obsM (fs : List (Frag → Bool)) (fn : List He5.DefA) (K : Frag) : He.AlD :=
  ((fs.all fun f => f K) && fn.all fun d => d.ok K, fn.map fun d => He5.fnA K (d.at_ K))
def SaysM (fs : List (Frag → Bool)) (fn : List He5.DefA) (K : Frag) : Prop := obsM fs fn K = He5.valA fn
def obsMG (n : Nat) (fs : List (Frag → Bool)) (fn : List He5.DefA) (g : Addr → Option Obj) : He.AlD := obsM fs fn (He.frG g (He5.asA g n))
def hookM (n : Nat) (fs : List (Frag → Bool)) (fn : List He5.DefA) : PySem.W.Hook where
  α := He.AlD
  obs s := obsMG n fs fn s.heap.get?
  val _ := He5.valA fn
  says _ h := ∃ K : Frag, K.In h ∧ SaysM fs fn K
  of _ _ e := ⟨_, He.frG_in, e⟩
  keeps _ _ _ := fun ⟨K, hK, c⟩ k => ⟨K, PySem.W.Frag.In.keeps hK k, c⟩
theorem obsMG_eq {n : Nat} {fs : List (Frag → Bool)} {fn : List He5.DefA} {g : Addr → Option Obj} {s : Shared} (h : ∀ a, g a = s.heap.get? a) :
    obsMG n fs fn g = (hookM n fs fn).obs s := by
  have e : g = s.heap.get? := funext h
  subst e
  rfl
theorem SaysM.fact {fs : List (Frag → Bool)} {fn : List He5.DefA} {K : Frag} (c : SaysM fs fn K) (i : Nat) {f : Frag → Bool} (h : fs[i]? = some f) : f K = true := by
  have c1 : ((fs.all fun f => f K) && fn.all fun d => d.ok K) = true := congrArg (fun z : He.AlD => z.1) c
  exact List.all_eq_true.mp (Bool.and_eq_true_iff.mp c1).1 f (List.mem_of_getElem? h)
theorem SaysM.dfn {fs : List (Frag → Bool)} {fn : List He5.DefA} {K : Frag} (c : SaysM fs fn K) (i : Nat) {d : He5.DefA} (h : fn[i]? = some d) :
    ∃ fd, FunD K d.name d.qual d.params d.body d.scope (d.dvs K) (d.kws K) (d.at_ K) fd := by
  have c1 : ((fs.all fun f => f K) && fn.all fun d => d.ok K) = true := congrArg (fun z : He.AlD => z.1) c
  have c2 := List.all_eq_true.mp (Bool.and_eq_true_iff.mp c1).2 d (List.mem_of_getElem? h)
  have e : (fn.map fun d => He5.fnA K (d.at_ K)) = fn.map He5.DefA.val := congrArg (fun z : He.AlD => z.2) c
  have e2 := congrArg (fun l => l[i]?) e
  simp only [List.getElem?_map, h, Option.map_some, Option.some.injEq] at e2
  exact He5.DefA.funD e2 c2
end Mine
namespace Mine
open PySem PySem.Spec PyProof.Rows L2
theorem fd_same {K : PySem.W.Frag} {x q x' q' : Str} {a a' : Arguments} {b b' : List Stmt} {c c' : Scope} {d d' : List V} {k k' : List (Str × V)} {f : Addr} {fd fd' : FuncData} (F : FunD K x q a b c d k f fd) (G : FunD K x' q' a' b' c' d' k' f fd') : fd = fd' := by
  obtain ⟨_, _, _, _, _, _, _, _, _, _, _, l, _⟩ := F.ex
  obtain ⟨_, _, _, _, _, _, _, _, _, _, _, l', _⟩ := G.ex
  have e := Option.some.inj (l.symm.trans l')
  injection e with _ _ e
  injection e
end Mine
namespace Mine
open PySem PySem.Spec PyProof.Rows L2
def propG (K : PySem.W.Frag) (C f : Str) : Addr := match PySem.W.recIn K (He.ma K (He.ga K C) f) "property" with
  | some (.ref g :: _) => g
  | _ => 0
def propB (K : PySem.W.Frag) (C f : Str) : Bool :=
  He.eqO (PySem.W.findIn K (.ref (He.ga K C)) f) (some (some (.ref (He.ma K (He.ga K C) f)))) &&
  (He.eqO (PySem.W.specialIn K (.ref (He.ma K (He.ga K C) f)) "__get__") (some (some (.builtin "property.__get__"))) &&
  (decide (PySem.W.takesIn K (.ref (He.ma K (He.ga K C) f)) = some true) &&
  match PySem.W.recIn K (He.ma K (He.ga K C) f) "property" with
  | some (.ref _ :: _) => true
  | _ => false))
theorem prop_ok {K : PySem.W.Frag} {C f : Str} (h : propB K C f = true) : PropOf K (He.ga K C) f (He.ma K (He.ga K C) f) (propG K C f) := by
  unfold propB at h
  rw [Bool.and_eq_true, Bool.and_eq_true, Bool.and_eq_true] at h
  obtain ⟨h1, h2, h3, h4⟩ := h
  refine ⟨He.eqO_ok h1, He.eqO_ok h2, of_decide_eq_true h3, ?_⟩
  unfold propG
  split at h4
  · rename_i g rest e
    rw [e]; exact ⟨_, rfl⟩
  · cases h4
def inscB (K : PySem.W.Frag) (C : Str) : Bool :=
  (He.Fa.cls C).ok K && (He.eqO (PySem.W.findIn K (.ref (He.ga K C)) "__class__") (some (some (.builtin "object.__class__"))) &&
  (He.eqO (PySem.W.specialIn K (.builtin "object.__class__") "__get__") (some (some (.builtin "getset_descriptor.__get__"))) &&
  (decide (PySem.W.takesIn K (.builtin "object.__class__") = some true) && (decide (PySem.W.mroIn K (He.ga K C) (.type "object") = some true) &&
  decide (PySem.W.kitOne K (.ref (He.ga K C)) (.ref (He.ga K C)) = some true)))))
theorem insc_ok {K : PySem.W.Frag} {C : Str} (h : inscB K C = true) : C8.InsC K (He.ga K C) := by
  unfold inscB at h
  rw [Bool.and_eq_true, Bool.and_eq_true, Bool.and_eq_true, Bool.and_eq_true, Bool.and_eq_true] at h
  obtain ⟨h1, h2, h3, h4, h5, h6⟩ := h
  exact ⟨He.cls_ok h1, He.eqO_ok h2, He.eqO_ok h3, of_decide_eq_true h4, of_decide_eq_true h5, of_decide_eq_true h6⟩
end Mine
namespace Mine
open PySem L2
theorem cls_ty (T : String) : ClsV (.ty T) (.type T) := .ty T
theorem k_isiII {K : PySem.W.Frag} {H : Hp} {Q : VK} {i : Int} (q : Q (.bl true) H) : rIsi K [.int i, .ty "int"] H Q :=
  k_isi (cls_ty "int") (.base (.int i)) (kit_ty (b := "int") (r := true) (by decide +kernel)) q
theorem k_isiIB {K : PySem.W.Frag} {H : Hp} {Q : VK} {i : Int} (q : Q (.bl false) H) : rIsi K [.int i, .ty "bool"] H Q :=
  k_isi (cls_ty "bool") (.base (.int i)) (kit_ty (b := "bool") (r := false) (by decide +kernel)) q
theorem k_isiBB {K : PySem.W.Frag} {H : Hp} {Q : VK} {b : Bool} (q : Q (.bl true) H) : rIsi K [.bl b, .ty "bool"] H Q :=
  k_isi (cls_ty "bool") (.base (.bl b)) (kit_ty (b := "bool") (r := true) (by decide +kernel)) q
/-- the plain form of top / 2 ** power -/
def plainZ : Int → Nat → Int × Int
  | t, 0 => (t, 0)
  | t, n + 1 => if t % 2 = 0 then plainZ (t / 2) n else (t, ((n + 1 : Nat) : Int))
theorem plainZ_zero (t : Int) : plainZ t 0 = (t, 0) := rfl
theorem plainZ_even {t : Int} {n : Nat} (h : t % 2 = 0) : plainZ t (n + 1) = plainZ (t / 2) n := by
  show (if t % 2 = 0 then _ else _) = _
  rw [if_pos h]
theorem plainZ_odd {t : Int} {n : Nat} (h : ¬ t % 2 = 0) : plainZ t (n + 1) = (t, ((n + 1 : Nat) : Int)) := by
  show (if t % 2 = 0 then _ else _) = _
  rw [if_neg h]
theorem plainZ_le : ∀ (t : Int) (n : Nat), 0 ≤ (plainZ t n).2 ∧ (plainZ t n).2 ≤ n
  | t, 0 => by simp [plainZ]
  | t, n + 1 => by
    have ih := plainZ_le (t / 2) n
    by_cases h : t % 2 = 0
    · rw [plainZ_even h]; omega
    · rw [plainZ_odd h]; simp only; omega
/-- the plain form, in words: an even top stands with power 0 alone -/
theorem plainZ_plain : ∀ (t : Int) (n : Nat), (plainZ t n).2 = 0 ∨ ¬ (plainZ t n).1 % 2 = 0
  | t, 0 => Or.inl rfl
  | t, n + 1 => by
    by_cases h : t % 2 = 0
    · rw [plainZ_even h]; exact plainZ_plain _ _
    · rw [plainZ_odd h]; exact Or.inr h
/-- the value: t * 2 ^ p = top * 2 ^ n -/
theorem plainZ_val : ∀ (t : Int) (n : Nat), (plainZ t n).1 * 2 ^ n = t * 2 ^ (plainZ t n).2.toNat
  | t, 0 => by simp [plainZ]
  | t, n + 1 => by
    by_cases h : t % 2 = 0
    · rw [plainZ_even h]
      have ih := plainZ_val (t / 2) n
      have e : t = 2 * (t / 2) := by omega
      rw [Int.pow_succ, ← Int.mul_assoc, ih]
      generalize (plainZ (t / 2) n).2.toNat = k
      generalize t / 2 = u at e
      rw [e, Int.mul_comm (u * 2 ^ k) 2, Int.mul_assoc]
    · rw [plainZ_odd h]; rfl
/-- one plain form a number -/
theorem plain_one {t u : Int} {p q : Nat} (ht : p = 0 ∨ ¬ t % 2 = 0) (hu : q = 0 ∨ ¬ u % 2 = 0) (e : t * 2 ^ q = u * 2 ^ p) : t = u ∧ p = q := by
  have key : ∀ {t u : Int} {p q : Nat}, (q = 0 ∨ ¬ u % 2 = 0) → t * 2 ^ q = u * 2 ^ p → ¬ p < q := by
    intro t u p q hu e h
    have e1 : q = (q - p - 1) + 1 + p := by omega
    rw [e1, Int.pow_add, ← Int.mul_assoc] at e
    have e2 := Int.eq_of_mul_eq_mul_right (Int.ne_of_gt (Int.pow_pos (by decide))) e
    rw [Int.pow_succ, ← Int.mul_assoc] at e2
    omega
  have h1 := key hu e
  have h2 := key ht e.symm
  have h3 : p = q := by omega
  subst h3
  exact ⟨Int.eq_of_mul_eq_mul_right (Int.ne_of_gt (Int.pow_pos (by decide))) e, rfl⟩
/-- two numbers by any of their forms -/
theorem scale (a c : Int) (b d : Nat) : ∃ S : Int, 0 < S ∧ ∃ S' : Int, 0 < S' ∧ (plainZ a b).1 * 2 ^ (plainZ c d).2.toNat * S = a * 2 ^ d * S' ∧ (plainZ c d).1 * 2 ^ (plainZ a b).2.toNat * S = c * 2 ^ b * S' := by
  have v1 := plainZ_val a b
  have v2 := plainZ_val c d
  generalize plainZ a b = x at *
  generalize plainZ c d = y at *
  refine ⟨2 ^ b * 2 ^ d, Int.mul_pos (Int.pow_pos (by decide)) (Int.pow_pos (by decide)), 2 ^ x.2.toNat * 2 ^ y.2.toNat, Int.mul_pos (Int.pow_pos (by decide)) (Int.pow_pos (by decide)), ?_, ?_⟩
  · generalize (2 : Int) ^ y.2.toNat = Y at *
    generalize (2 : Int) ^ x.2.toNat = X at *
    generalize (2 : Int) ^ b = B at *
    generalize (2 : Int) ^ d = D at *
    have : x.1 * Y * (B * D) = (x.1 * B) * (Y * D) := by ac_rfl
    rw [this, v1]; ac_rfl
  · generalize (2 : Int) ^ y.2.toNat = Y at *
    generalize (2 : Int) ^ x.2.toNat = X at *
    generalize (2 : Int) ^ b = B at *
    generalize (2 : Int) ^ d = D at *
    have : y.1 * X * (B * D) = (y.1 * D) * (X * B) := by ac_rfl
    rw [this, v2]; ac_rfl
theorem lt_forms (a c : Int) (b d : Nat) : ((plainZ a b).1 * 2 ^ (plainZ c d).2.toNat < (plainZ c d).1 * 2 ^ (plainZ a b).2.toNat) ↔ (a * 2 ^ d < c * 2 ^ b) := by
  obtain ⟨S, hS, S', hS', e1, e2⟩ := scale a c b d
  constructor
  · intro h
    have h1 := Int.mul_lt_mul_of_pos_right h hS
    rw [e1, e2] at h1
    exact Int.lt_of_mul_lt_mul_right h1 (Int.le_of_lt hS')
  · intro h
    have h1 := Int.mul_lt_mul_of_pos_right h hS'
    rw [← e1, ← e2] at h1
    exact Int.lt_of_mul_lt_mul_right h1 (Int.le_of_lt hS)
theorem eq_forms (a c : Int) (b d : Nat) : ((plainZ a b).1 = (plainZ c d).1 ∧ (plainZ a b).2 = (plainZ c d).2) ↔ (a * 2 ^ d = c * 2 ^ b) := by
  obtain ⟨S, hS, S', hS', e1, e2⟩ := scale a c b d
  have w1 := plainZ_le a b
  have w2 := plainZ_le c d
  constructor
  · rintro ⟨h1, h2⟩
    have h3 : (plainZ a b).1 * 2 ^ (plainZ c d).2.toNat * S = (plainZ c d).1 * 2 ^ (plainZ a b).2.toNat * S := by rw [h1, h2]
    rw [e1, e2] at h3
    exact Int.eq_of_mul_eq_mul_right (Int.ne_of_gt hS') h3
  · intro h
    rw [h, ← e2] at e1
    have h1 := Int.eq_of_mul_eq_mul_right (Int.ne_of_gt hS) e1
    have p1 := plainZ_plain a b
    have p2 := plainZ_plain c d
    have r := plain_one (p := (plainZ a b).2.toNat) (q := (plainZ c d).2.toNat) (by omega) (by omega) h1
    exact ⟨r.1, by omega⟩
theorem bitAnd_one (x : Int) : Builtin.bitAnd x 1 = x % 2 := by
  exact PyProof.Rows.bitAnd_m1 x
end Mine
namespace Mine
open PySem PySem.Spec PyProof.Rows L2
open Evl (Ex)
/-- what of the class Dyadic's text is needed -/
structure FDyadic (K : PySem.W.Frag) : Prop where
  cl : Cls K (He.ga K "Dyadic")
  nt : NoAttr K (He.ga K "Dyadic") "_top"
  np : NoAttr K (He.ga K "Dyadic") "_power"
theorem ktp : ¬ (("_top" : Str) = "_power") := by decide +kernel
/-- its attributes -/
def dfs (t p : Int) : List (Str × V) := putF "_power" (.int p) (putF "_top" (.int t) [])
theorem dfs_top (t p : Int) : (dfs t p).lookup ("_top" : Str) = some (.int t) := by
  unfold dfs
  rw [lookup_putF, if_neg ktp, lookup_putF, if_pos rfl]
theorem dfs_power (t p : Int) : (dfs t p).lookup ("_power" : Str) = some (.int p) := by
  unfold dfs
  rw [lookup_putF, if_pos rfl]
theorem dfs_no (t p : Int) {m : Str} (h1 : ¬ m = "_power") (h2 : ¬ m = "_top") : (dfs t p).lookup m = none := by
  unfold dfs
  rw [lookup_putF, if_neg h1, lookup_putF, if_neg h2]
  all_goals rfl
theorem dfs_len (t p : Int) : (dfs t p).length < 1000 := by
  have h := length_putF "_power" (V.int p) (putF "_top" (V.int t) [])
  have h2 := length_putF "_top" (V.int t) []
  simp only [List.length_nil] at h2
  unfold dfs; omega
def okTop (a b : Int) : Prop := (-1000000000000 ≤ a ∧ a ≤ 1000000000000) ∧ 0 ≤ b ∧ b ≤ 40
/-- a Dyadic stands at a: its plain form's top and power -/
def DyAt (K : PySem.W.Frag) (H : Hp) (a : Addr) (t p : Int) : Prop := ∃ dx, H a = some (.ins (He.ga K "Dyadic") dx (dfs t p))
theorem DyAt.ex {K : PySem.W.Frag} {H H' : Hp} {a : Addr} {t p : Int} (h : DyAt K H a t p) (e : Ex H H') : DyAt K H' a t p :=
  let ⟨dx, q⟩ := h
  ⟨dx, e _ _ q⟩
theorem dy_inj {K : PySem.W.Frag} {H : Hp} {a : Addr} {t p t' p' : Int} (h : DyAt K H a t p) (h' : DyAt K H a t' p') : t = t' ∧ p = p' := by
  obtain ⟨dx, h⟩ := h
  obtain ⟨dx', h'⟩ := h'
  have e := Option.some.inj (h.symm.trans h')
  injection e with _ _ e
  have e1 := congrArg (fun l => List.lookup ("_top" : Str) l) e
  have e2 := congrArg (fun l => List.lookup ("_power" : Str) l) e
  simp only [dfs_top, dfs_power, Option.some.injEq, V.int.injEq] at e1 e2
  exact ⟨e1, e2⟩
theorem dy_tr {K : PySem.W.Frag} {H H' : Hp} {a : Addr} {t p : Int} (e : Ex H H') (h : DyAt K H a t p) : DyAt K H' a t p := h.ex e
theorem dy_prop {K : PySem.W.Frag} {H : Hp} {a : Addr} {t p : Int} {P : Addr → Prop} (h : DyAt K H a t p) (q : P a) :
    ∃ b dx fs, V.ref a = V.ref b ∧ H b = some (HO.ins (He.ga K "Dyadic") dx fs) ∧ P b :=
  let ⟨dx, e⟩ := h
  ⟨a, dx, _, rfl, e, q⟩
theorem dy_isC {K : PySem.W.Frag} {H : Hp} {Q : VK} {a : Addr} {t p : Int} (h : DyAt K H a t p) (q : Q (.bl true) H) : rIsC (He.ga K "Dyadic") [.ref a, .ref (He.ga K "Dyadic")] H Q :=
  let ⟨dx, e⟩ := h
  ⟨a, dx, _, rfl, e, q⟩
/-- x.m(..): what a method call asks of a Dyadic -/
theorem dy_meth {K : PySem.W.Frag} {H : Hp} {a : Addr} {t p : Int} {m : Str} {P : Prop} (h : DyAt K H a t p) (h1 : ¬ m = "_power") (h2 : ¬ m = "_top") (q : P) :
    ∃ b dx fs, V.ref a = V.ref b ∧ H b = some (HO.ins (He.ga K "Dyadic") dx fs) ∧ fs.lookup m = none ∧ P :=
  let ⟨dx, e⟩ := h
  ⟨a, dx, _, rfl, e, dfs_no _ _ h1 h2, q⟩
end Mine
namespace Mine
open PySem L2
/-- the age of a number in plain form -/
def ageZ (t p : Int) : Int := if p = 0 then (if t < 0 then -t else t) else (if t < 0 then -t else t) / 2 ^ p.toNat + p + 1
def ageN : Nat → Nat → Nat
  | n, 0 => n
  | n, p + 1 => if n % 2 = 0 then ageN (n / 2) p else n / 2 ^ (p + 1) + (p + 1) + 1
theorem ageN_even {n p : Nat} (h : n % 2 = 0) : ageN n (p + 1) = ageN (n / 2) p := by
  show (if n % 2 = 0 then _ else _) = _
  rw [if_pos h]
theorem ageN_odd {n p : Nat} (h : ¬ n % 2 = 0) : ageN n (p + 1) = n / 2 ^ (p + 1) + (p + 1) + 1 := by
  show (if n % 2 = 0 then _ else _) = _
  rw [if_neg h]
theorem abs_if (t : Int) : (if t < 0 then -t else t) = (t.natAbs : Int) := by split <;> omega
theorem ageZ_N : ∀ (t : Int) (p : Nat), ageZ (plainZ t p).1 (plainZ t p).2 = (ageN t.natAbs p : Nat)
  | t, 0 => by
    show (if (0 : Int) = 0 then _ else _) = _
    rw [if_pos rfl, abs_if]; rfl
  | t, p + 1 => by
    by_cases h : t % 2 = 0
    · rw [plainZ_even h, ageN_even (by omega), ageZ_N (t / 2) p]
      congr 2; omega
    · rw [plainZ_odd h, ageN_odd (by omega)]
      show (if ((p + 1 : Nat) : Int) = 0 then _ else _) = _
      rw [if_neg (by omega), abs_if, Int.toNat_natCast]
      push_cast
      rfl
theorem plainZ_idem : ∀ (t : Int) (p : Nat), plainZ (plainZ t p).1 (plainZ t p).2.toNat = plainZ t p
  | t, 0 => rfl
  | t, p + 1 => by
    by_cases h : t % 2 = 0
    · rw [plainZ_even h]; exact plainZ_idem _ _
    · rw [plainZ_odd h]
      show plainZ t (((p + 1 : Nat) : Int)).toNat = _
      rw [Int.toNat_natCast, plainZ_odd h]
theorem plainZ_le_abs : ∀ (t : Int) (p : Nat), (plainZ t p).1.natAbs ≤ t.natAbs
  | t, 0 => Nat.le_refl _
  | t, p + 1 => by
    by_cases h : t % 2 = 0
    · rw [plainZ_even h]
      have := plainZ_le_abs (t / 2) p
      omega
    · rw [plainZ_odd h]; exact Nat.le_refl _
theorem div_half (m p : Nat) : m / 2 ^ (p + 1) = m / 2 / 2 ^ p := by
  rw [Nat.pow_succ, Nat.mul_comm, Nat.div_div_eq_div_mul]
theorem age_pair : ∀ (p m : Nat), max (ageN m p) (ageN (m + 1) p) = m / 2 ^ p + p + 1
  | 0, m => by
    show max m (m + 1) = m / 2 ^ 0 + 0 + 1
    rw [Nat.pow_zero, Nat.div_one]; omega
  | p + 1, m => by
    by_cases h : m % 2 = 0
    · rw [ageN_even h, ageN_odd (by omega), div_half, div_half m]
      have e : (m + 1) / 2 = m / 2 := by omega
      rw [e]
      have ih := age_pair p (m / 2)
      omega
    · rw [ageN_odd h, ageN_even (by omega), div_half]
      have ih := age_pair p (m / 2)
      have e : (m + 1) / 2 = m / 2 + 1 := by omega
      rw [e]
      omega
/-- a number that is no integer is one older than the older of its neighbours -/
theorem age_next {n p : Nat} (h : n % 2 = 1) : ageN n (p + 1) = 1 + max (ageN (n - 1) (p + 1)) (ageN (n + 1) (p + 1)) := by
  rw [ageN_odd (by omega), ageN_even (by omega), ageN_even (by omega), div_half]
  have e1 : (n - 1) / 2 = n / 2 := by omega
  have e2 : (n + 1) / 2 = n / 2 + 1 := by omega
  rw [e1, e2, age_pair]
  omega
end Mine
namespace Mine
open PySem L2
/-! the walk from 0 to n / 2 ** p, in parts of 2 ** 40 -/
abbrev UU : Int := 1099511627776
theorem UU_eq {p : Nat} (h : p ≤ 40) : UU = 2 ^ p * 2 ^ (40 - p) := by
  rw [← Int.pow_add]
  have e : p + (40 - p) = 40 := by omega
  rw [e]; rfl
theorem part_half {j : Nat} (h : j + 1 ≤ 40) : (2 : Int) ^ (40 - j) = 2 * 2 ^ (40 - (j + 1)) := by
  have e : 40 - j = (40 - (j + 1)) + 1 := by omega
  rw [e, Int.pow_succ, Int.mul_comm]
theorem part_pos (k : Nat) : (0 : Int) < 2 ^ k := Int.pow_pos (by decide)
def goalN (n p : Nat) : Int := (n : Int) * 2 ^ (40 - p)
/-- where the walk is behind i steps: at x; nb the nearest number passed on this side, fb on the far side -/
def WA (n p i : Nat) (x : Int) (nb fb : Option Int) : Prop :=
  (fb = none ∧ x = (i : Int) * UU ∧ ((i = 0 ∧ nb = none) ∨ (1 ≤ i ∧ nb = some (((i : Int) - 1) * UU) ∧ ((i : Int) - 1) * UU < goalN n p))) ∨
  ∃ (j : Nat) (m : Int), 1 ≤ j ∧ j ≤ p ∧ i = n / 2 ^ p + 1 + j ∧ x = m * 2 ^ (40 - j) ∧ nb = some (x - 2 ^ (40 - j)) ∧ fb = some (x + 2 ^ (40 - j)) ∧
    x - 2 ^ (40 - j) < goalN n p ∧ goalN n p < x + 2 ^ (40 - j)
section
variable {n p i : Nat} {x : Int} {nb fb : Option Int}
theorem goal_nonneg : 0 ≤ goalN n p := Int.mul_nonneg (by omega) (Int.le_of_lt (part_pos _))
/-- a step less than the goal in its own last parts is not at the end of its halvings -/
theorem not_last {m : Int} {j : Nat} (hj : j ≤ p) (h1 : m * 2 ^ (40 - j) - 2 ^ (40 - j) < goalN n p) (h2 : goalN n p < m * 2 ^ (40 - j) + 2 ^ (40 - j)) (hne : m * 2 ^ (40 - j) ≠ goalN n p) : j + 1 ≤ p := by
  rcases Nat.lt_or_ge j p with h | h
  · exact h
  · exfalso
    have e : j = p := by omega
    subst e
    unfold goalN at h1 h2 hne
    have hp := part_pos (40 - j)
    generalize (2 : Int) ^ (40 - j) = u at *
    have a1 : (m - 1) * u < n * u := by rw [Int.sub_mul]; omega
    have a2 : n * u < (m + 1) * u := by rw [Int.add_mul]; omega
    have b1 := Int.lt_of_mul_lt_mul_right a1 (Int.le_of_lt hp)
    have b2 := Int.lt_of_mul_lt_mul_right a2 (Int.le_of_lt hp)
    have : m = n := by omega
    exact hne (by rw [this])
theorem WA.below (hp : p ≤ 40) (h : WA n p i x nb fb) (hx : x < goalN n p) :
    (fb = none → WA n p (i + 1) (x + UU) (some x) none) ∧ ∀ f, fb = some f → ∃ x', x + f = 2 * x' ∧ WA n p (i + 1) x' (some x) fb := by
  rcases h with ⟨rfl, rfl, hc⟩ | ⟨j, m, j1, jp, hi, rfl, rfl, rfl, g1, g2⟩
  · refine ⟨fun _ => Or.inl ⟨rfl, by push_cast; rw [Int.add_mul, Int.one_mul], Or.inr ⟨by omega, ?_, ?_⟩⟩, fun f e => by cases e⟩
    · congr 1; congr 1; push_cast; omega
    · have e : ((i + 1 : Nat) : Int) - 1 = i := by omega
      rw [e]; exact hx
  · refine ⟨fun e => (by cases e), fun f e => ?_⟩
    cases e
    have jl := not_last jp g1 g2 (Int.ne_of_lt hx)
    have hu := part_half (j := j) (by omega)
    refine ⟨m * 2 ^ (40 - j) + 2 ^ (40 - (j + 1)), by omega, Or.inr ⟨j + 1, 2 * m + 1, by omega, jl, by omega, ?_, ?_, ?_, by omega, by omega⟩⟩
    · rw [hu, Int.add_mul, Int.one_mul]
      congr 1
      rw [Int.mul_comm 2 m, Int.mul_assoc]
    · congr 1; omega
    · congr 1; omega
theorem WA.above (hp : p ≤ 40) (h : WA n p i x nb fb) (hx : goalN n p < x) : ∃ b x', nb = some b ∧ x + b = 2 * x' ∧ WA n p (i + 1) x' nb (some x) := by
  rcases h with ⟨rfl, rfl, hc⟩ | ⟨j, m, j1, jp, hi, rfl, rfl, rfl, g1, g2⟩
  · rcases hc with ⟨rfl, rfl⟩ | ⟨i1, rfl, g1⟩
    · have := goal_nonneg (n := n) (p := p)
      exfalso; omega
    · have e2 : (2 : Int) ^ (40 - 1) = 549755813888 := by decide
      have w1 : 1 ≤ p ∧ n / 2 ^ p = i - 1 := by
        unfold goalN at hx g1
        rw [UU_eq hp] at hx g1
        have hq := part_pos (40 - p)
        generalize (2 : Int) ^ (40 - p) = u at *
        rw [← Int.mul_assoc] at hx g1
        have b1 := Int.lt_of_mul_lt_mul_right hx (Int.le_of_lt hq)
        have b2 := Int.lt_of_mul_lt_mul_right g1 (Int.le_of_lt hq)
        have c1 : n < i * 2 ^ p := by exact_mod_cast b1
        have c2 : (i - 1) * 2 ^ p < n := by
          have : ((i - 1 : Nat) : Int) = (i : Int) - 1 := by omega
          rw [← this] at b2
          exact_mod_cast b2
        constructor
        · rcases Nat.eq_zero_or_pos p with e | e
          · subst e
            rw [Nat.pow_zero, Nat.mul_one] at c1 c2
            omega
          · exact e
        · have hpp : 0 < 2 ^ p := Nat.pow_pos (by decide)
          refine Nat.div_eq_of_lt_le (by omega) ?_
          have : i - 1 + 1 = i := by omega
          rw [this]; exact c1
      refine ⟨_, (2 * i - 1) * 549755813888, rfl, by unfold UU; omega, Or.inr ⟨1, 2 * i - 1, by omega, w1.1, by omega, by rw [e2], ?_, ?_, ?_, ?_⟩⟩
      · rw [e2]; congr 1; unfold UU; omega
      · rw [e2]; congr 1; unfold UU; omega
      · rw [e2]; unfold UU at g1; omega
      · rw [e2]; unfold UU at hx; omega
  · have jl := not_last jp g1 g2 (Int.ne_of_gt hx)
    have hu := part_half (j := j) (by omega)
    refine ⟨_, m * 2 ^ (40 - j) - 2 ^ (40 - (j + 1)), rfl, by omega, Or.inr ⟨j + 1, 2 * m - 1, by omega, jl, by omega, ?_, ?_, ?_, by omega, by omega⟩⟩
    · rw [hu, Int.sub_mul, Int.one_mul]
      congr 1
      rw [Int.mul_comm 2 m, Int.mul_assoc]
    · congr 1; omega
    · congr 1; omega
theorem WA.here (hp : p ≤ 40) (hn : p = 0 ∨ n % 2 = 1) (h : WA n p i x nb fb) (hx : x = goalN n p) : i = if p = 0 then n else n / 2 ^ p + p + 1 := by
  rcases h with ⟨rfl, rfl, hc⟩ | ⟨j, m, j1, jp, hi, rfl, rfl, rfl, g1, g2⟩
  · unfold goalN at hx
    rw [UU_eq hp, ← Int.mul_assoc] at hx
    have e := Int.eq_of_mul_eq_mul_right (Int.ne_of_gt (part_pos _)) hx
    have e2 : i * 2 ^ p = n := by exact_mod_cast e
    rcases Nat.eq_zero_or_pos p with h0 | h0
    · subst h0; rw [if_pos rfl]; rw [Nat.pow_zero, Nat.mul_one] at e2; exact e2
    · exfalso
      obtain ⟨k, rfl⟩ : ∃ k, p = k + 1 := ⟨p - 1, by omega⟩
      rw [Nat.pow_succ, ← Nat.mul_assoc] at e2
      omega
  · rw [if_neg (by omega)]
    rcases Nat.lt_or_ge j p with h | h
    · exfalso
      unfold goalN at hx
      have e : 40 - j = (p - j - 1) + 1 + (40 - p) := by omega
      rw [e, Int.pow_add, ← Int.mul_assoc] at hx
      have e1 := Int.eq_of_mul_eq_mul_right (Int.ne_of_gt (part_pos _)) hx
      rw [Int.pow_succ, ← Int.mul_assoc] at e1
      omega
    · have : j = p := by omega
      omega
theorem WA.few (hp : p ≤ 40) (hn : n ≤ 50 * 2 ^ p) (h : WA n p i x nb fb) : i ≤ 91 := by
  rcases h with ⟨rfl, rfl, hc⟩ | ⟨j, m, j1, jp, hi, _⟩
  · rcases hc with ⟨rfl, _⟩ | ⟨i1, _, g1⟩
    · omega
    · have hg : goalN n p ≤ 50 * UU := by
        unfold goalN
        rw [UU_eq hp, ← Int.mul_assoc]
        exact Int.mul_le_mul_of_nonneg_right (by exact_mod_cast hn) (Int.le_of_lt (part_pos _))
      unfold UU at g1 hg; omega
  · have : n / 2 ^ p ≤ 50 := by
      have := Nat.div_le_div_right (c := 2 ^ p) hn
      rw [Nat.mul_div_cancel _ (Nat.pow_pos (by decide))] at this
      exact this
    omega
theorem WA.start : WA n p 0 0 none none := Or.inl ⟨rfl, by simp, Or.inl ⟨rfl, rfl⟩⟩
end
end Mine
namespace Mine
open PySem PySem.Spec PyProof.Rows L2
open Evl (Ex)

local macro_rules | `(tactic| walk_at "mcond") => `(tactic| first
  | (show (0 : Int) < _; omega)
  | (show (0 : Int) ≤ _; omega)
  | (show CDiv _ _; exact ⟨by omega, by omega⟩)
  | (show CPow _ _; exact ⟨by omega, by omega, by omega⟩)
  | (show CMul _ _; exact Or.inl ⟨by omega, by omega⟩)
  | (show CMul _ _; exact Or.inr ⟨by omega, by omega⟩)
  | assumption)
local macro_rules | `(tactic| walk_at "mtr") => `(tactic| first
  | assumption
  | (refine tr_step (H := ?_) ?_ ?_; rotate_left; (focus assumption); walk_at "mtr"))
local macro_rules | `(tactic| walk_at "msq") => `(tactic| first
  | assumption
  | (refine k_sq ?_; walk_at "mtr")
  | (refine k_st ?_; walk_at "mtr")
  | exact Evl.ex_l (by first | assumption | solve_by_elim) (by assumption)
  | exact Evl.ex_t (by first | assumption | solve_by_elim) (by assumption))
local macro_rules | `(tactic| walk_at "mins") => `(tactic| walk_at "mtr")
local macro_rules | `(tactic| walk_at "mcls") => `(tactic| first | assumption | (apply FDyadic.cl; assumption))
local macro_rules | `(tactic| walk_at "mna") => `(tactic| first | assumption | (apply FDyadic.nt; assumption) | (apply FDyadic.np; assumption))
local macro_rules | `(tactic| walk_at "mlk") => `(tactic| first | assumption | exact dfs_top _ _ | exact dfs_power _ _)
local macro_rules | `(tactic| walk_at "mdy") => `(tactic| first
  | assumption
  | (refine dy_tr (H := ?_) ?_ ?_; rotate_left; (focus assumption); walk_at "mdy"))
local macro_rules | `(tactic| walk_at "mst") => `(tactic| first
  | with_reducible refine k_seq ?_
  | with_reducible refine k_asg ?_
  | ((with_reducible refine k_fldv (v := ?_) (fs := ?_) (C := ?_) (dx := ?_) (a := ?_) ?_ ?_ ?_ ?_ ?_ ?_); rotate_left 5; (focus exact rfl); (focus walk_at "mins"); (focus walk_at "mcls"); (focus walk_at "mna"); (focus walk_at "mlk"))
  | with_reducible refine k_name ?_
  | ((with_reducible refine k_var (v := ?_) ?_ ?_); rotate_left; (focus exact rfl))
  | with_reducible refine k_c ?_
  | with_reducible refine k_op ?_
  | with_reducible refine k_un ?_
  | with_reducible refine k_I0 ?_
  | with_reducible refine k_pow12 ?_
  | with_reducible refine k_pow18 ?_
  | with_reducible refine k_pow11 ?_
  | with_reducible refine k_pow9 ?_
  | with_reducible refine k_pow30 ?_
  | ((with_reducible refine k_shl1 ?_ ?_); (focus (constructor <;> omega)); intro _ _ _)
  | ((with_reducible refine k_minL ?_); intro _ _ _ _)
  | ((with_reducible refine k_maxL ?_); intro _ _ _ _)
  | ((with_reducible refine k_I ?_ ?_); (focus walk_at "mcond"))
  | with_reducible refine k_U ?_
  | with_reducible refine k_eqI ?_
  | with_reducible refine k_eqB ?_
  | with_reducible refine k_neI ?_
  | with_reducible refine k_isTy ?_
  | with_reducible refine k_isiII ?_
  | with_reducible refine k_isiIB ?_
  | with_reducible refine k_isiBB ?_
  | with_reducible refine k_isN ?_
  | with_reducible refine k_notN ?_
  | with_reducible refine k_chain ?_
  | with_reducible refine k_bl ?_
  | with_reducible refine k_test ?_
  | with_reducible refine k_B ?_
  | with_reducible refine k_and ?_
  | with_reducible refine k_or ?_
  | with_reducible refine k_not ?_
  | with_reducible refine k_if ?_
  | with_reducible refine k_ifS ?_
  | with_reducible refine k_andV ?_
  | with_reducible refine k_orV ?_
  | with_reducible refine k_notV ?_
  | with_reducible refine k_tup ?_
  | with_reducible refine k_lst ?_
  | with_reducible refine k_cb ?_
  | with_reducible refine k_nil ?_
  | with_reducible refine k_cons ?_
  | with_reducible refine k_rInt ?_
  | with_reducible refine k_rAbs ?_
  | with_reducible refine k_rMax ?_
  | with_reducible refine k_rMin ?_
  | ((with_reducible refine k_rLenL (ys := ?_) ?_ ?_); rotate_left; (focus walk_at "msq"))
  | ((with_reducible refine k_rLenT (ys := ?_) ?_ ?_); rotate_left; (focus walk_at "msq"))
  | with_reducible refine k_bm ?_
  | with_reducible refine k_bm0 ?_
  | ((with_reducible refine k_tyl (xs := ?_) ?_ ?_); rotate_left; (focus walk_at "msq"))
  | ((with_reducible refine k_rApp (xs := ?_) ?_ ?_ ?_); rotate_left; (focus walk_at "mtr"))
  | ((with_reducible refine dy_meth (t := ?_) (p := ?_) ?_ ?_ ?_ ?_); rotate_left 2; (focus walk_at "mdy"); (focus decide +kernel); (focus decide +kernel))
  | ((with_reducible refine dy_prop (t := ?_) (p := ?_) ?_ ?_); rotate_left 2; (focus walk_at "mdy"))
  | ((with_reducible refine dy_isC (t := ?_) (p := ?_) ?_ ?_); rotate_left 2; (focus walk_at "mdy"))
  | with_reducible refine k_call ?_
  | with_reducible refine k_meth ?_
  | with_reducible refine k_make ?_
  | with_reducible refine k_prop ?_
  | with_reducible refine k_ret ?_
  | with_reducible refine k_drop ?_
  | with_reducible refine k_next ?_
  | with_reducible refine k_for ?_
  | with_reducible refine k_rng1 ?_
  | with_reducible refine k_rng2 ?_
  | with_reducible refine k_ilist ?_
  | with_reducible refine k_itup ?_
  | with_reducible refine k_iteT ?_
  | with_reducible refine k_iteNT ?_
  | with_reducible refine k_iteNF ?_
  | with_reducible refine k_raise ?_
  | with_reducible refine k_iteF ?_
  | ((with_reducible refine k_ixT (xs := ?_) (v := ?_) ?_ ?_ ?_); rotate_left 2; (focus walk_at "msq"); (focus exact rfl))
  | with_reducible refine k_gnil ?_
  | with_reducible refine k_gcons ?_)
def sp_law_digits (K : PySem.W.Frag) : Sp := spR (fun vs H => ∃ (c n : Int), vs = [.int c, .int n] ∧ 0 ≤ n ∧ n ≤ 1000)
  (fun vs H v H' => ∃ (c n : Int) (p : Addr) (ds : List Int), vs = [.int c, .int n] ∧ v = .ref p ∧ H p = none ∧ Ex H H' ∧ H' p = some (.lst (ds.map V.int)) ∧ (ds.length : Int) = n ∧ ∀ d ∈ ds, 0 ≤ d ∧ d < 60)
abbrev N_law_digits : List Str := ["cell", "count", "row", "k", "seed"]
def t_law_digits (K : PySem.W.Frag) (E : XK) : TS := (tSeq (tAsg (tLst tNil) (gName 2)) (tSeq (tIfS (tTest (tOp rGeI (tVar 0) (tOp rPowI (tC (.int 10)) (tC (.int 18))))) (tSeq (tFor (iRng1 (tCons (tVar 1) tNil)) (gName 3) (tSeq (tDrop (tBM K "list" rAppend (tVar 2) (tCons (tOp rModI (tCB rIntI (tCons (tVar 0) tNil)) (tC (.int 60))) tNil))) (tAsg (tOp rDivI (tVar 0) (tC (.int 60))) (gName 0)))) (tRet (tVar 2))) tNext) (tSeq (tAsg (tOp rModI (tCB rIntI (tCons (tOp rAddI (tOp rMulI (tVar 0) (tC (.int 48271))) (tC (.int 11))) tNil)) (tC (.int 2147483647))) (gName 4)) (tSeq (tFor (iRng1 (tCons (tVar 1) tNil)) (gName 3) (tSeq (tAsg (tOp rModI (tCB rIntI (tCons (tOp rAddI (tOp rAddI (tOp rMulI (tVar 4) (tC (.int 69621))) (tOp rMulI (tC (.int 7)) (tVar 3))) (tC (.int 1))) tNil)) (tC (.int 2147483629))) (gName 4)) (tDrop (tBM K "list" rAppend (tVar 2) (tCons (tOp rModI (tCB rIntI (tCons (tOp rDivI (tVar 4) (tC (.int 64))) tNil)) (tC (.int 60))) tNil))))) (tRet (tVar 2))))))
theorem len_law_digits {K : PySem.W.Frag} {vs : List V} {H : Hp} {Q : VK} {E : XK} (h : sp_law_digits K vs H Q E) : vs.length = 2 := by
  obtain ⟨⟨_, _, rfl, _⟩, _⟩ := h; rfl
theorem dg_more {ds : List Int} {z : Int} (h : ∀ d ∈ ds, 0 ≤ d ∧ d < 60) (hz : 0 ≤ z ∧ z < 60) : ∀ d ∈ ds ++ [z], 0 ≤ d ∧ d < 60 := by
  intro d hd
  rcases List.mem_append.mp hd with m | m
  · exact h d m
  · rw [List.mem_singleton.mp m]; exact hz
theorem map_more (ds : List Int) (z : Int) : ds.map V.int ++ [V.int z] = (ds ++ [z]).map V.int := by simp
theorem pure_law_digits {K : PySem.W.Frag} (vs : List V) (H : Hp) (Q : VK) (E : XK) (h : sp_law_digits K vs H Q E) : t_law_digits K E { nx := fun _ H' => Q .non H', rt := Q } (start N_law_digits vs) H := by
  obtain ⟨⟨c, n, rfl, h0, h1⟩, q⟩ := h
  unfold t_law_digits
  repeat walk_at "mst"
  refine ⟨by show 0 ≤ sizeLine; decide, fun p hp => ?_⟩
  repeat walk_at "mst"
  refine k_iteD (fun hc => ?_) (fun hc => ?_)
  · repeat walk_at "mst"
    refine ⟨_, rfl, by omega, by omega, forK_range (fun i σ H' => Ex H H' ∧ ∃ (ds : List Int) (m : Int) (v w : Option V), H' p = some (.lst (ds.map V.int)) ∧ ds.length = i ∧ (∀ d ∈ ds, 0 ≤ d ∧ d < 60) ∧ σ = [some (.int m), some (.int n), some (.ref p), v, w]) ?_ ?_ ?_⟩
    · exact ⟨Evl.Ex.new hp, [], c, none, none, upd_same, rfl, by simp, rfl⟩
    · rintro i σ H' hi ⟨e, ds, m, v, w, hl, hn, hd, rfl⟩
      repeat walk_at "mst"
      · exact k_sizeL (by omega)
      repeat walk_at "mst"
      exact ⟨Evl.Ex.mut e hp, ds ++ [m % 60], _, _, _, by rw [upd_same, map_more], by simp [hn], dg_more hd ⟨by omega, by omega⟩, rfl⟩
    · rintro σ H' ⟨e, ds, m, v, w, hl, hn, hd, rfl⟩
      repeat walk_at "mst"
      exact q _ _ ⟨c, n, p, ds, rfl, rfl, hp, e, hl, by omega, hd⟩
  · repeat walk_at "mst"
    refine ⟨_, rfl, by omega, by omega, forK_range (fun i σ H' => Ex H H' ∧ ∃ (ds : List Int) (m : Int) (v : Option V), H' p = some (.lst (ds.map V.int)) ∧ ds.length = i ∧ (∀ d ∈ ds, 0 ≤ d ∧ d < 60) ∧ σ = [some (.int c), some (.int n), some (.ref p), v, some (.int m)]) ?_ ?_ ?_⟩
    · exact ⟨Evl.Ex.new hp, [], _, _, upd_same, rfl, by simp, rfl⟩
    · rintro i σ H' hi ⟨e, ds, m, v, hl, hn, hd, rfl⟩
      repeat walk_at "mst"
      · exact k_sizeL (by omega)
      repeat walk_at "mst"
      exact ⟨Evl.Ex.mut e hp, ds ++ [_], _, _, by rw [upd_same, map_more], by simp [hn], dg_more hd ⟨by omega, by omega⟩, rfl⟩
    · rintro σ H' ⟨e, ds, m, v, hl, hn, hd, rfl⟩
      repeat walk_at "mst"
      exact q _ _ ⟨c, n, p, ds, rfl, rfl, hp, e, hl, by omega, hd⟩
theorem use_digits {K : PySem.W.Frag} {H : Hp} {Q : VK} {E : XK} {c n : Int} (h : 0 ≤ n ∧ n ≤ 1000) (q : ∀ (p : Addr) (ds : List Int) (H' : Hp), H p = none → Ex H H' → H' p = some (.lst (ds.map V.int)) → (ds.length : Int) = n → (∀ d ∈ ds, 0 ≤ d ∧ d < 60) → Q (.ref p) H') : sp_law_digits K ([.int c, .int n] ++ []) H Q E := by
  refine ⟨⟨c, n, rfl, h.1, h.2⟩, ?_⟩
  rintro v H' ⟨c', n', p, ds, e, rfl, h1, h2, h3, h4, h5⟩
  cases e
  exact q p ds H' h1 h2 h3 h4 h5
def sp_law_pair (K : PySem.W.Frag) : Sp := spR (fun vs H => ∃ c s : Int, vs = [.int c, .int s])
  (fun vs H v H' => ∃ (p : Addr) (a b : Int), v = .ref p ∧ H p = none ∧ Ex H H' ∧ H' p = some (.tup [.int a, .int b]) ∧ (-1000000000000 ≤ a ∧ a ≤ 1000000000000) ∧ 0 ≤ b ∧ b ≤ 40)
abbrev N_law_pair : List Str := ["cell", "shape", "digits", "power", "most", "top", "size"]
def t_law_pair (K : PySem.W.Frag) (E : XK) : TS := (tSeq (tAsg (tCall (sp_law_digits K) [] E0 (tCons (tVar 1) (tCons (tC (.int 4)) tNil))) (gName 2)) (tSeq (tAsg (tOp rModI (tCB rIntI (tCons (tOp (rIxL K) (tVar 2) (tC (.int 0))) tNil)) (tC (.int 41))) (gName 3)) (tSeq (tAsg (tCB rMin2 (tCons (tOp rPowI (tC (.int 10)) (tC (.int 12))) (tCons (tOp rShlI (tC (.int 1)) (tOp rModI (tCB rIntI (tCons (tOp (rIxL K) (tVar 2) (tC (.int 1))) tNil)) (tC (.int 41)))) tNil))) (gName 4)) (tSeq (tAsg (tOp rSubI (tOp rModI (tCB rIntI (tCons (tVar 0) tNil)) (tOp rAddI (tOp rMulI (tC (.int 2)) (tVar 4)) (tC (.int 1)))) (tVar 4)) (gName 5)) (Evl.tCut (tIfS (tTest (tOp rEq (tOp rModI (tCB rIntI (tCons (tOp (rIxL K) (tVar 2) (tC (.int 2))) tNil)) (tC (.int 4))) (tC (.int 1)))) (tSeq (tAsg (tOp rShlI (tOp rShrI (tCB rAbsI (tCons (tVar 5) tNil)) (tOp rModI (tCB rIntI (tCons (tOp (rIxL K) (tVar 2) (tC (.int 3))) tNil)) (tC (.int 40)))) (tOp rModI (tCB rIntI (tCons (tOp (rIxL K) (tVar 2) (tC (.int 3))) tNil)) (tC (.int 40)))) (gName 6)) (tAsg (tIf (tTest (tOp rGtI (tVar 5) (tC (.int 0)))) (tVar 6) (tUn rNegI (tVar 6))) (gName 5))) tNext) (Evl.tCut (tIfS (tTest (tOp rEq (tOp rModI (tCB rIntI (tCons (tOp (rIxL K) (tVar 2) (tC (.int 2))) tNil)) (tC (.int 8))) (tC (.int 2)))) (tAsg (tOp (rIxL K) (tLst (tCons (tC (.int 0)) (tCons (tC (.int 1)) (tCons (tUn rNegI (tC (.int 1))) (tCons (tOp rPowI (tC (.int 10)) (tC (.int 12))) (tCons (tUn rNegI (tOp rPowI (tC (.int 10)) (tC (.int 12)))) (tCons (tOp rSubI (tOp rPowI (tC (.int 10)) (tC (.int 12))) (tC (.int 1))) (tCons (tOp rSubI (tC (.int 1)) (tOp rPowI (tC (.int 10)) (tC (.int 12)))) tNil)))))))) (tOp rModI (tCB rIntI (tCons (tOp (rIxL K) (tVar 2) (tC (.int 3))) tNil)) (tC (.int 7)))) (gName 5)) tNext) (tRet (tTup (tCons (tVar 5) (tCons (tVar 3) tNil))))))))))
theorem len_law_pair {K : PySem.W.Frag} {vs : List V} {H : Hp} {Q : VK} {E : XK} (h : sp_law_pair K vs H Q E) : vs.length = 2 := by
  obtain ⟨⟨_, _, rfl⟩, _⟩ := h; rfl
/-- an item of a list of digits -/
theorem dg_at {ds : List Int} (hd : ∀ d ∈ ds, 0 ≤ d ∧ d < 60) {k : Nat} (hk : k < ds.length) : ∃ z, atI (ds.map V.int) (k : Int) = some (.int z) ∧ 0 ≤ z ∧ z < 60 := by
  refine ⟨ds[k], atI_nat (by simp [hk]), hd _ (List.getElem_mem _)⟩
theorem shift_down (x : Int) (n : Nat) (h : 0 ≤ x) : 0 ≤ x / 2 ^ n * 2 ^ n ∧ x / 2 ^ n * 2 ^ n ≤ x := by
  have hp : (0 : Int) < 2 ^ n := Int.pow_pos (by decide)
  have h1 := Int.ediv_mul_le x (Int.ne_of_gt hp)
  have h2 : 0 ≤ x / 2 ^ n := Int.ediv_nonneg h (Int.le_of_lt hp)
  exact ⟨Int.mul_nonneg h2 (Int.le_of_lt hp), h1⟩
theorem pure_law_pair {K : PySem.W.Frag} (vs : List V) (H : Hp) (Q : VK) (E : XK) (h : sp_law_pair K vs H Q E) : t_law_pair K E { nx := fun _ H' => Q .non H', rt := Q } (start N_law_pair vs) H := by
  obtain ⟨⟨c, s, rfl⟩, q⟩ := h
  unfold t_law_pair
  repeat walk_at "mst"
  refine ⟨⟨s, 4, rfl, by decide, by decide⟩, ?_⟩
  rintro v H1 ⟨_, _, pd, ds, e, rfl, hpd, e1, hds, hn, hb⟩
  cases e
  have hn4 : ds.length = 4 := by omega
  obtain ⟨d0, a0, b0⟩ := dg_at hb (k := 0) (by omega)
  obtain ⟨d1, a1, b1⟩ := dg_at hb (k := 1) (by omega)
  obtain ⟨d2, a2, b2⟩ := dg_at hb (k := 2) (by omega)
  obtain ⟨d3, a3, b3⟩ := dg_at hb (k := 3) (by omega)
  repeat walk_at "mst"
  refine k_ixL (k_sq hds) a0 ?_
  repeat walk_at "mst"
  refine k_ixL (k_sq hds) a1 ?_
  repeat walk_at "mst"
  rename_i most hm1 hm2 hm3
  have hm0 : 1 ≤ most := by omega
  generalize hT : c % (2 * most + 1) - most = top
  have ht : -1000000000000 ≤ top ∧ top ≤ 1000000000000 := by
    have h1 := Int.emod_nonneg c (by omega : 2 * most + 1 ≠ 0)
    have h2 := Int.emod_lt_of_pos c (by omega : 0 < 2 * most + 1)
    omega
  clear hT
  refine k_cut (fun σ' H' => ∃ (top : Int) (z : Option V), (-1000000000000 ≤ top ∧ top ≤ 1000000000000) ∧ H1 = H' ∧ σ' = [some (.int c), some (.int s), some (.ref pd), some (.int (d0 % 41)), some (.int most), some (.int top), z]) ?_ ?_
  · repeat walk_at "mst"
    refine k_ixL (k_sq hds) a2 ?_
    repeat walk_at "mst"
    refine k_iteD (fun hc => ?_) (fun hc => ?_)
    · repeat walk_at "mst"
      refine k_ixL (k_sq hds) a3 ?_
      repeat walk_at "mst"
      refine k_ixL (k_sq hds) a3 ?_
      repeat walk_at "mst"
      have hA : 0 ≤ (if top < 0 then -top else top) ∧ (if top < 0 then -top else top) ≤ 1000000000000 := by split <;> omega
      generalize (if top < 0 then -top else top) = A at hA
      have hs := shift_down A (d3 % 40).toNat hA.1
      have hq : 0 ≤ A / 2 ^ (d3 % 40).toNat ∧ A / 2 ^ (d3 % 40).toNat ≤ A := ⟨Int.ediv_nonneg hA.1 (Int.le_of_lt (Int.pow_pos (by decide))), Int.ediv_le_self _ hA.1⟩
      refine k_I ⟨by omega, by omega, by omega⟩ ?_
      generalize A / 2 ^ (d3 % 40).toNat * 2 ^ (d3 % 40).toNat = B at hs
      repeat walk_at "mst"
      refine k_iteD (fun hc => ?_) (fun hc => ?_)
      · repeat walk_at "mst"
        exact ⟨B, _, by omega, rfl, rfl⟩
      · repeat walk_at "mst"
        exact ⟨-B, _, by omega, rfl, rfl⟩
    · repeat walk_at "mst"
      exact ⟨top, _, ht, rfl, rfl⟩
  · rintro σ' H' ⟨top, z, ht, rfl, rfl⟩
    refine k_cut (fun σ' H'' => ∃ (top : Int) (z : Option V), (-1000000000000 ≤ top ∧ top ≤ 1000000000000) ∧ Ex H1 H'' ∧ σ' = [some (.int c), some (.int s), some (.ref pd), some (.int (d0 % 41)), some (.int most), some (.int top), z]) ?_ ?_
    · repeat walk_at "mst"
      refine k_ixL (k_sq hds) a2 ?_
      repeat walk_at "mst"
      refine k_iteD (fun hc => ?_) (fun hc => ?_)
      · repeat walk_at "mst"
        refine ⟨by show 7 ≤ sizeLine; decide, fun l hl => ?_⟩
        repeat walk_at "mst"
        refine k_ixL (k_sq (by rw [upd_ne (ne_of_none hds hl)]; exact hds)) a3 ?_
        repeat walk_at "mst"
        obtain ⟨z7, hz7, hr⟩ : ∃ z7 : Int, atI [V.int 0, V.int 1, V.int (-1), V.int 1000000000000, V.int (-1000000000000), V.int (1000000000000 - 1), V.int (1 - 1000000000000)] (d3 % 7) = some (.int z7) ∧ -1000000000000 ≤ z7 ∧ z7 ≤ 1000000000000 := by
          have h7 : d3 % 7 = 0 ∨ d3 % 7 = 1 ∨ d3 % 7 = 2 ∨ d3 % 7 = 3 ∨ d3 % 7 = 4 ∨ d3 % 7 = 5 ∨ d3 % 7 = 6 := by omega
          rcases h7 with h | h | h | h | h | h | h <;> rw [h] <;> exact ⟨_, rfl, by decide, by decide⟩
        refine k_ixL (k_sq upd_same) hz7 ?_
        repeat walk_at "mst"
        exact ⟨z7, _, hr, Evl.Ex.new hl, rfl⟩
      · repeat walk_at "mst"
        exact ⟨top, _, ht, Evl.Ex.refl _, rfl⟩
    · rintro σ' H2 ⟨top, z, ht, e2, rfl⟩
      repeat walk_at "mst"
      refine ⟨two_le _ _, fun p hp => q _ _ ⟨p, top, d0 % 41, rfl, Evl.fresh_back (e1.trans e2) hp, (e1.trans e2).trans (Evl.Ex.new hp), upd_same, ht, by omega, by omega⟩⟩
theorem use_pair {K : PySem.W.Frag} {H : Hp} {Q : VK} {E : XK} {c n : Int} (q : ∀ p a b H', H p = none → Ex H H' → H' p = some (.tup [.int a, .int b]) → (-1000000000000 ≤ a ∧ a ≤ 1000000000000) → 0 ≤ b ∧ b ≤ 40 → Q (.ref p) H') : sp_law_pair K ([.int c, .int n] ++ []) H Q E := by
  refine ⟨⟨c, n, rfl⟩, ?_⟩
  rintro v H' ⟨p, a, b, rfl, h1, h2, h3, h4, h5⟩
  exact q p a b H' h1 h2 h3 h4 h5
def sp_law_cell (K : PySem.W.Frag) : Sp := fun vs H Q _ => ∃ (a : Addr) (ns : List Int) (k : Int), vs = [.ref a, .int k] ∧ SqL K H a (ns.map V.int) ∧ 0 ≤ k ∧ ∀ i, (i ∈ ns ∨ (0 ≤ i ∧ i < 2147483647) ∨ i = 104729 * k + 7) → Q (.int i) H
abbrev N_law_cell : List Str := ["script", "k", "mixed", "cell"]
def t_law_cell (K : PySem.W.Frag) (E : XK) : TS := (tSeq (tIfS (tTest (tOp rLtI (tVar 1) (tCB (rLenQ K) (tCons (tVar 0) tNil)))) (tRet (tOp (rIxL K) (tVar 0) (tVar 1))) tNext) (tSeq (tAsg (tOp rAddI (tOp rMulI (tC (.int 104729)) (tVar 1)) (tC (.int 7))) (gName 2)) (tSeq (tFor (iList K (tVar 0)) (gName 3) (tAsg (tOp rModI (tCB rIntI (tCons (tOp rAddI (tOp rMulI (tVar 2) (tC (.int 31))) (tVar 3)) tNil)) (tC (.int 2147483647))) (gName 2))) (tRet (tVar 2)))))
theorem len_law_cell {K : PySem.W.Frag} {vs : List V} {H : Hp} {Q : VK} {E : XK} (h : sp_law_cell K vs H Q E) : vs.length = 2 := by
  obtain ⟨_, _, _, rfl, _⟩ := h; rfl
theorem pure_law_cell {K : PySem.W.Frag} (vs : List V) (H : Hp) (Q : VK) (E : XK) (h : sp_law_cell K vs H Q E) : t_law_cell K E { nx := fun _ H' => Q .non H', rt := Q } (start N_law_cell vs) H := by
  obtain ⟨a, ns, k, rfl, hS, hk, q⟩ := h
  unfold t_law_cell
  repeat walk_at "mst"
  refine k_iteD (fun hc => ?_) (fun hc => ?_)
  · rw [List.length_map] at hc
    obtain ⟨z, mz, hz⟩ := at_int hk hc
    repeat walk_at "mst"
    exact k_ixL hS hz (q _ (Or.inl (List.mem_of_getElem? mz)))
  · repeat walk_at "mst"
    refine ⟨a, rfl, ⟨_, hS⟩, forK_list (xs := ns.map V.int) (fun i σ H' => H' = H ∧ ∃ (m : Int) (v : Option V), ((0 ≤ m ∧ m < 2147483647) ∨ m = 104729 * k + 7) ∧ σ = [some (.ref a), some (.int k), some (.int m), v]) ⟨rfl, _, _, Or.inr rfl, rfl⟩ ?_ ?_ ?_⟩
    · rintro i σ H' _ ⟨rfl, _⟩; exact hS
    · rintro i x σ H' hx ⟨rfl, m, v, _, rfl⟩
      obtain ⟨z, _, rfl⟩ := get_int hx
      repeat walk_at "mst"
      exact ⟨rfl, _, _, Or.inl ⟨by omega, by omega⟩, rfl⟩
    · rintro σ H' ⟨rfl, m, v, b, rfl⟩
      repeat walk_at "mst"
      exact q _ (Or.inr b)
theorem use_cellB {K : PySem.W.Frag} {H : Hp} {Q : VK} {E : XK} {a : Addr} {ns : List Int} {k : Int} (h : SqL K H a (ns.map V.int)) (h0 : 0 ≤ k) (q : ∀ i, (i ∈ ns ∨ (0 ≤ i ∧ i < 2147483647) ∨ i = 104729 * k + 7) → Q (.int i) H) : sp_law_cell K ([.ref a, .int k] ++ []) H Q E := ⟨a, ns, k, rfl, h, h0, q⟩
theorem use_cell {K : PySem.W.Frag} {H : Hp} {Q : VK} {E : XK} {a : Addr} {ns : List Int} {k : Int} (h : SqL K H a (ns.map V.int)) (h0 : 0 ≤ k) (q : ∀ i, Q (.int i) H) : sp_law_cell K ([.ref a, .int k] ++ []) H Q E := ⟨a, ns, k, rfl, h, h0, fun i _ => q i⟩
def sp_law_plain (K : PySem.W.Frag) : Sp := spR (fun vs H => ∃ (a b : Int), vs = [.int a, .int b] ∧ 0 ≤ b ∧ b ≤ 64)
  (fun vs H v H' => ∃ (a b : Int) (p : Addr), vs = [.int a, .int b] ∧ v = .ref p ∧ H p = none ∧ H' = upd H p (.tup [.int (plainZ a b.toNat).1, .int (plainZ a b.toNat).2]))
abbrev N_law_plain : List Str := ["top", "power", "k"]
def t_law_plain (K : PySem.W.Frag) (E : XK) : TS := (tSeq (tFor (iRng1 (tCons (tC (.int 64)) tNil)) (gName 2) (tIfS (tAnd (tTest (tOp rGtI (tVar 1) (tC (.int 0)))) (tTest (tOp rEq (tOp rModI (tCB rIntI (tCons (tVar 0) tNil)) (tC (.int 2))) (tC (.int 0))))) (tSeq (tAsg (tOp rDivI (tVar 0) (tC (.int 2))) (gName 0)) (tAsg (tOp rSubI (tVar 1) (tC (.int 1))) (gName 1))) tNext)) (tRet (tTup (tCons (tVar 0) (tCons (tVar 1) tNil)))))
theorem len_law_plain {K : PySem.W.Frag} {vs : List V} {H : Hp} {Q : VK} {E : XK} (h : sp_law_plain K vs H Q E) : vs.length = 2 := by
  obtain ⟨⟨_, _, rfl, _⟩, _⟩ := h; rfl
theorem pure_law_plain {K : PySem.W.Frag} (vs : List V) (H : Hp) (Q : VK) (E : XK) (h : sp_law_plain K vs H Q E) : t_law_plain K E { nx := fun _ H' => Q .non H', rt := Q } (start N_law_plain vs) H := by
  obtain ⟨⟨a, b, rfl, h0, h1⟩, q⟩ := h
  unfold t_law_plain
  repeat walk_at "mst"
  refine ⟨_, rfl, by omega, by omega, forK_range (fun i σ H' => H' = H ∧ ∃ (x y : Int) (v : Option V), σ = [some (.int x), some (.int y), v] ∧ 0 ≤ y ∧ y ≤ 64 ∧ plainZ x y.toNat = plainZ a b.toNat ∧ (y + i ≤ 64 ∨ plainZ x y.toNat = (x, y))) ?_ ?_ ?_⟩
  · exact ⟨rfl, a, b, none, rfl, h0, h1, rfl, by omega⟩
  · rintro i σ H' hi ⟨rfl, x, y, v, rfl, hy, hy2, e, hm⟩
    repeat walk_at "mst"
    refine k_iteD (fun hc => ?_) (fun hc => ?_)
    · repeat walk_at "mst"
      refine k_iteD (fun hd => ?_) (fun hd => ?_)
      · repeat walk_at "mst"
        have s1 : (y - 1).toNat + 1 = y.toNat := by omega
        have e1 : plainZ x y.toNat = plainZ (x / 2) (y - 1).toNat := by
          rw [← s1, plainZ_even hd]
        refine ⟨rfl, x / 2, y - 1, _, rfl, by omega, by omega, e1.symm.trans e, ?_⟩
        rcases hm with hm | hm
        · left; omega
        · exfalso
          have z := plainZ_le (x / 2) (y - 1).toNat
          rw [← e1, hm] at z
          simp only at z; omega
      · repeat walk_at "mst"
        refine ⟨rfl, x, y, _, rfl, hy, hy2, e, Or.inr ?_⟩
        have s1 : (y - 1).toNat + 1 = y.toNat := by omega
        rw [← s1, plainZ_odd hd]
        congr 1; omega
    · repeat walk_at "mst"
      refine ⟨rfl, x, y, _, rfl, hy, hy2, e, Or.inr ?_⟩
      have s1 : y.toNat = 0 := by omega
      rw [s1, plainZ_zero]
      congr 1; omega
  · rintro σ H' ⟨rfl, x, y, v, rfl, hy, hy2, e, hm⟩
    repeat walk_at "mst"
    refine ⟨two_le _ _, fun p hp => q _ _ ⟨a, b, p, rfl, rfl, hp, ?_⟩⟩
    have e2 : plainZ a b.toNat = (x, y) := by
      rw [← e]
      rcases hm with hm | hm
      · have : y.toNat = 0 := by omega
        rw [this, plainZ_zero]; congr 1; omega
      · exact hm
    rw [e2]
theorem use_plain {K : PySem.W.Frag} {H : Hp} {Q : VK} {E : XK} {a b : Int} (h : 0 ≤ b ∧ b ≤ 64) (q : ∀ p, H p = none → Q (.ref p) (upd H p (.tup [.int (plainZ a b.toNat).1, .int (plainZ a b.toNat).2]))) : sp_law_plain K ([.int a, .int b] ++ []) H Q E := by
  refine ⟨⟨a, b, rfl, h.1, h.2⟩, ?_⟩
  rintro v H' ⟨a', b', p, e, rfl, h1, rfl⟩
  cases e
  exact q p h1
/-- a thing of a known kind: whether it is an int within bounds -/
def wholeV (x : V) (lo hi : Int) : Bool := match x with
  | .int i => decide (lo ≤ i) && decide (i ≤ hi)
  | _ => false
def sp_is_whole (K : PySem.W.Frag) : Sp := spR (fun vs H => ∃ (x : V) (T : String) (lo hi : Int), vs = [x, .int lo, .int hi] ∧ TyB K H x T)
  (fun vs H v H' => ∃ (x : V) (lo hi : Int), vs = [x, .int lo, .int hi] ∧ v = .bl (wholeV x lo hi) ∧ H' = H)
abbrev N_is_whole : List Str := ["thing", "least", "most"]
def t_is_whole (K : PySem.W.Frag) (E : XK) : TS := (tRet (tAndV (tOp rIsTy (tCB (rTyp K) (tCons (tVar 0) tNil)) (tC (.ty "int"))) (tChain rLeI rLeI (tVar 1) (tVar 0) (tVar 2))))
theorem len_is_whole {K : PySem.W.Frag} {vs : List V} {H : Hp} {Q : VK} {E : XK} (h : sp_is_whole K vs H Q E) : vs.length = 3 := by
  obtain ⟨⟨_, _, _, _, rfl, _⟩, _⟩ := h; rfl
theorem whole_ty {K : PySem.W.Frag} {H : Hp} {x : V} {T : String} (t : TyB K H x T) : (T = "int" ∧ ∃ i, x = .int i) ∨ (T ≠ "int" ∧ ∀ lo hi, wholeV x lo hi = false) := by
  cases t
  case int i => exact Or.inl ⟨rfl, i, rfl⟩
  all_goals exact Or.inr ⟨by decide, fun _ _ => rfl⟩
theorem pure_is_whole {K : PySem.W.Frag} (vs : List V) (H : Hp) (Q : VK) (E : XK) (h : sp_is_whole K vs H Q E) : t_is_whole K E { nx := fun _ H' => Q .non H', rt := Q } (start N_is_whole vs) H := by
  obtain ⟨⟨x, T, lo, hi, rfl, ht⟩, q⟩ := h
  unfold t_is_whole
  repeat walk_at "mst"
  refine ⟨x, T, rfl, ht, ?_⟩
  repeat walk_at "mst"
  rcases whole_ty ht with ⟨e, i, rfl⟩ | ⟨e, hf⟩
  · refine k_iteD (fun _ => ?_) (fun hn => absurd e hn)
    repeat walk_at "mst"
    refine k_iteD (fun h1 => ?_) (fun h1 => ?_)
    · repeat walk_at "mst"
      refine q _ _ ⟨_, lo, hi, rfl, ?_, rfl⟩
      show V.bl (decide (i ≤ hi)) = V.bl (decide (lo ≤ i) && decide (i ≤ hi))
      rw [decide_eq_true h1, Bool.true_and]
    · refine q _ _ ⟨_, lo, hi, rfl, ?_, rfl⟩
      show V.bl false = V.bl (decide (lo ≤ i) && decide (i ≤ hi))
      rw [decide_eq_false h1, Bool.false_and]
  · refine k_iteD (fun hy => absurd hy e) (fun _ => ?_)
    exact q _ _ ⟨x, lo, hi, rfl, by rw [hf], rfl⟩
def sp_plain (K : PySem.W.Frag) : Sp := spR (fun vs H => ∃ (a b : Int), vs = [.int a, .int b] ∧ 0 ≤ b)
  (fun vs H v H' => ∃ (a b : Int) (p : Addr), vs = [.int a, .int b] ∧ v = .ref p ∧ H p = none ∧ H' = upd H p (.tup [.int (plainZ a b.toNat).1, .int (plainZ a b.toNat).2]))
abbrev N_plain : List Str := ["top", "power"]
def t_plain (K : PySem.W.Frag) (E : XK) : TS := (tSeq (tWhile (tAnd (tTest (tOp rGtI (tVar 1) (tC (.int 0)))) (tTest (tOp rEq (tOp rAndI (tVar 0) (tC (.int 1))) (tC (.int 0))))) (tSeq (tAsg (tOp rShrI (tVar 0) (tC (.int 1))) (gName 0)) (tAsg (tOp rSubI (tVar 1) (tC (.int 1))) (gName 1)))) (tRet (tTup (tCons (tVar 0) (tCons (tVar 1) tNil)))))
theorem len_plain {K : PySem.W.Frag} {vs : List V} {H : Hp} {Q : VK} {E : XK} (h : sp_plain K vs H Q E) : vs.length = 2 := by
  obtain ⟨⟨_, _, rfl, _⟩, _⟩ := h; rfl
theorem pure_plain {K : PySem.W.Frag} (vs : List V) (H : Hp) (Q : VK) (E : XK) (h : sp_plain K vs H Q E) : t_plain K E { nx := fun _ H' => Q .non H', rt := Q } (start N_plain vs) H := by
  obtain ⟨⟨a, b, rfl, h0⟩, q⟩ := h
  unfold t_plain
  repeat walk_at "mst"
  refine k_while (fun m σ H' => H' = H ∧ ∃ (x y : Int), σ = [some (.int x), some (.int y)] ∧ y.toNat = m ∧ 0 ≤ y ∧ plainZ x y.toNat = plainZ a b.toNat) b.toNat ⟨rfl, a, b, rfl, rfl, h0, rfl⟩ ?_
  rintro m σ H' ⟨rfl, x, y, rfl, hm, hy, e⟩
  repeat walk_at "mst"
  refine k_iteD (fun hc => ?_) (fun hc => ?_)
  · repeat walk_at "mst"
    have s1 : (y - 1).toNat + 1 = y.toNat := by omega
    refine k_iteD (fun hd => ?_) (fun hd => ?_)
    · repeat walk_at "mst"
      refine ⟨fun σ2 H2 => ∃ m', m' < m ∧ (H2 = H' ∧ ∃ (x y : Int), σ2 = [some (.int x), some (.int y)] ∧ y.toNat = m' ∧ 0 ≤ y ∧ plainZ x y.toNat = plainZ a b.toNat), fun _ _ z => z, ?_⟩
      repeat walk_at "mst"
      rw [bitAnd_one] at hd
      refine ⟨(y - 1).toNat, by omega, rfl, x / 2, y - 1, rfl, rfl, by omega, ?_⟩
      rw [← e, ← s1, plainZ_even hd]
    · repeat walk_at "mst"
      rw [bitAnd_one] at hd
      refine ⟨two_le _ _, fun p hp => q _ _ ⟨a, b, p, rfl, rfl, hp, ?_⟩⟩
      have e2 : plainZ x y.toNat = (x, y) := by
        rw [← s1, plainZ_odd hd]
        congr 1; omega
      rw [← e, e2]
  · repeat walk_at "mst"
    refine ⟨two_le _ _, fun p hp => q _ _ ⟨a, b, p, rfl, rfl, hp, ?_⟩⟩
    have s1 : y.toNat = 0 := by omega
    have e2 : plainZ x y.toNat = (x, y) := by
      rw [s1, plainZ_zero]
      congr 1; omega
    rw [← e, e2]
def sp_Dyadic_d_init (K : PySem.W.Frag) : Sp := spX (fun vs H => ∃ (p dx : Addr) (x y : V) (T U : String), vs = [.ref p, x, y] ∧ H p = some (.ins (He.ga K "Dyadic") dx []) ∧ TyB K H x T ∧ TyB K H y U)
  (fun vs H v H' => ∃ (p dx : Addr) (a b : Int), vs = [.ref p, .int a, .int b] ∧ okTop a b ∧ v = .non ∧ (∀ c o, H c = some o → c ≠ p → H' c = some o) ∧ ∀ dx, H p = some (.ins (He.ga K "Dyadic") dx []) → H' p = some (.ins (He.ga K "Dyadic") dx (dfs (plainZ a b.toNat).1 (plainZ a b.toNat).2)))
  (fun vs H c d H' => ∃ (p : V) (x y : V), vs = [p, x, y] ∧ (¬ ∃ a b, x = .int a ∧ y = .int b ∧ okTop a b) ∧ c = .ref (He.ga K "BadValue") ∧ d = none ∧ H' = H)
abbrev N_Dyadic_d_init : List Str := ["self", "top", "power"]
def t_Dyadic_d_init (K : PySem.W.Frag) (E : XK) : TS := (tSeq (tIfS (tNot (tB (tCall (sp_is_whole K) [] E0 (tCons (tVar 1) (tCons (tUn rNegI (tC (.int 1000000000000))) (tCons (tC (.int 1000000000000)) tNil)))))) (tRaise E (.ref (He.ga K "BadValue"))) tNext) (tSeq (tIfS (tNot (tB (tCall (sp_is_whole K) [] E0 (tCons (tVar 2) (tCons (tC (.int 0)) (tCons (tC (.int 40)) tNil)))))) (tRaise E (.ref (He.ga K "BadValue"))) tNext) (tAsg (tCall (sp_plain K) [] E0 (tCons (tVar 1) (tCons (tVar 2) tNil))) (gTup K 2 (gCons (gFld K (tVar 0) "_top") (gCons (gFld K (tVar 0) "_power") gNil))))))
theorem len_Dyadic_d_init {K : PySem.W.Frag} {vs : List V} {H : Hp} {Q : VK} {E : XK} (h : sp_Dyadic_d_init K vs H Q E) : vs.length = 3 := by
  obtain ⟨⟨_, _, _, _, _, _, rfl, _⟩, _⟩ := h; rfl
theorem whole_int {x : V} {lo hi : Int} (h : wholeV x lo hi = true) : ∃ i, x = .int i ∧ lo ≤ i ∧ i ≤ hi := by
  cases x
  case int i =>
    have h' : (decide (lo ≤ i) && decide (i ≤ hi)) = true := h
    rw [Bool.and_eq_true, decide_eq_true_eq, decide_eq_true_eq] at h'
    exact ⟨i, rfl, h'.1, h'.2⟩
  all_goals cases h
theorem whole_no {i lo hi : Int} (h : wholeV (.int i) lo hi = false) : ¬ (lo ≤ i ∧ i ≤ hi) := by
  have h' : (decide (lo ≤ i) && decide (i ≤ hi)) = false := h
  rw [Bool.and_eq_false_iff, decide_eq_false_iff_not, decide_eq_false_iff_not] at h'
  rintro ⟨h1, h2⟩
  rcases h' with h' | h'
  · exact h' h1
  · exact h' h2
theorem pure_Dyadic_d_init {K : PySem.W.Frag} (F : FDyadic K) (vs : List V) (H : Hp) (Q : VK) (E : XK) (h : sp_Dyadic_d_init K vs H Q E) : t_Dyadic_d_init K E { nx := fun _ H' => Q .non H', rt := Q } (start N_Dyadic_d_init vs) H := by
  obtain ⟨⟨p, dx, x, y, T, U, rfl, hp, tx, ty⟩, q, r⟩ := h
  unfold t_Dyadic_d_init
  repeat walk_at "mst"
  refine ⟨⟨x, T, _, _, rfl, tx⟩, ?_⟩
  rintro v H1 ⟨x', lo, hi, e, rfl, rfl⟩
  cases e
  repeat walk_at "mst"
  cases hx : wholeV x (-1000000000000) 1000000000000
  · repeat walk_at "mst"
    refine r _ _ _ ⟨_, x, y, rfl, ?_, rfl, rfl, rfl⟩
    rintro ⟨a, b, rfl, rfl, ok⟩
    exact whole_no hx ok.1
  · repeat walk_at "mst"
    refine ⟨⟨y, U, _, _, rfl, ty⟩, ?_⟩
    rintro v H1 ⟨x', lo, hi, e, rfl, rfl⟩
    cases e
    repeat walk_at "mst"
    cases hy : wholeV y 0 40
    · repeat walk_at "mst"
      refine r _ _ _ ⟨_, x, y, rfl, ?_, rfl, rfl, rfl⟩
      rintro ⟨a, b, rfl, rfl, ok⟩
      exact whole_no hy ok.2
    · repeat walk_at "mst"
      obtain ⟨a, rfl, a1, a2⟩ := whole_int hx
      obtain ⟨b, rfl, b1, b2⟩ := whole_int hy
      refine ⟨⟨a, b, rfl, b1⟩, ?_⟩
      rintro v H2 ⟨a', b', t, e, rfl, ht, rfl⟩
      cases e
      have npt : p ≠ t := ne_of_none hp ht
      refine k_gtup (k_st upd_same) rfl ?_
      repeat walk_at "mst"
      refine k_gfld rfl (by rw [upd_ne npt]; exact hp) F.cl F.nt (by show 0 < 1000; decide) ?_
      repeat walk_at "mst"
      refine k_gfld rfl upd_same F.cl F.np (by show 1 < 1000; decide) ?_
      repeat walk_at "mst"
      refine q _ _ ⟨p, dx, a, b, rfl, ⟨⟨a1, a2⟩, b1, b2⟩, rfl, ?_, ?_⟩
      · intro c o hc hne
        rw [upd_ne hne, upd_ne hne, upd_ne (ne_of_none hc ht)]
        exact hc
      · intro dx' h'
        have e : HO.ins (He.ga K "Dyadic") dx [] = HO.ins (He.ga K "Dyadic") dx' [] := Option.some.inj (hp.symm.trans h')
        injection e with _ e _
        subst e
        exact upd_same
/-- a Dyadic is made -/
theorem mk_dy {K : PySem.W.Frag} {H : Hp} {Q : Addr → Hp → Prop} {E : XK} {a b : Int} (ok : okTop a b) (k : ∀ x H', H x = none → Ex H H' → DyAt K H' x (plainZ a b.toNat).1 (plainZ a b.toNat).2 → Q x H') :
    ∀ x dx, H x = none → H dx = none → dx ≠ x → sp_Dyadic_d_init K (.ref x :: ([.int a, .int b] ++ [])) (upd (upd H dx (.own x)) x (.ins (He.ga K "Dyadic") dx [])) (fun v H2 => v = .non ∧ Q x H2) E := by
  intro x dx hx hd hne
  refine ⟨⟨x, dx, _, _, _, _, rfl, upd_same, .int a, .int b⟩, ?_, ?_⟩
  · rintro v H' ⟨p, dx', a', b', e, _, rfl, fr, me⟩
    cases e
    refine ⟨rfl, k x H' hx (fun c o hc => ?_) ⟨dx, me dx upd_same⟩⟩
    have h1 : c ≠ x := ne_of_none hc hx
    refine fr c o ?_ h1
    rw [upd_ne h1, upd_ne (ne_of_none hc hd)]
    exact hc
  · rintro c d H' ⟨p, x', y', e, no, _⟩
    cases e
    exact absurd ⟨a, b, rfl, rfl, ok⟩ no
theorem mk_dy1 {K : PySem.W.Frag} {H : Hp} {Q : Addr → Hp → Prop} {E : XK} {a : Int} (ok : -1000000000000 ≤ a ∧ a ≤ 1000000000000) (k : ∀ x H', H x = none → Ex H H' → DyAt K H' x a 0 → Q x H') :
    ∀ x dx, H x = none → H dx = none → dx ≠ x → sp_Dyadic_d_init K (.ref x :: ([.int a] ++ [.int 0])) (upd (upd H dx (.own x)) x (.ins (He.ga K "Dyadic") dx [])) (fun v H2 => v = .non ∧ Q x H2) E :=
  mk_dy (a := a) (b := 0) ⟨ok, by decide, by decide⟩ k
def sp_Dyadic_m_age (K : PySem.W.Frag) : Sp := spR (fun vs H => ∃ (a : Addr) (t p : Int), vs = [.ref a] ∧ DyAt K H a t p ∧ 0 ≤ p)
  (fun vs H v H' => (∀ (a : Addr) (t p : Int), vs = [.ref a] → DyAt K H a t p → v = .int (ageZ t p)) ∧ H' = H)
abbrev N_Dyadic_m_age : List Str := ["self", "size"]
def t_Dyadic_m_age (K : PySem.W.Frag) (E : XK) : TS := (tSeq (tAsg (tCB rAbsI (tCons (tFld K (tVar 0) "_top") tNil)) (gName 1)) (tSeq (tIfS (tTest (tOp rEq (tFld K (tVar 0) "_power") (tC (.int 0)))) (tRet (tVar 1)) tNext) (tRet (tOp rAddI (tOp rAddI (tOp rShrI (tVar 1) (tFld K (tVar 0) "_power")) (tFld K (tVar 0) "_power")) (tC (.int 1))))))
theorem len_Dyadic_m_age {K : PySem.W.Frag} {vs : List V} {H : Hp} {Q : VK} {E : XK} (h : sp_Dyadic_m_age K vs H Q E) : vs.length = 1 := by
  obtain ⟨⟨_, _, _, rfl, _⟩, _⟩ := h; rfl
theorem pure_Dyadic_m_age {K : PySem.W.Frag} (F : FDyadic K) (vs : List V) (H : Hp) (Q : VK) (E : XK) (h : sp_Dyadic_m_age K vs H Q E) : t_Dyadic_m_age K E { nx := fun _ H' => Q .non H', rt := Q } (start N_Dyadic_m_age vs) H := by
  obtain ⟨⟨a, t, p, rfl, hA, h0⟩, q⟩ := h
  obtain ⟨dx, ha⟩ := id hA
  have fin : ∀ i, ageZ t p = i → Q (.int i) H := by
    rintro i rfl
    refine q _ _ ⟨?_, rfl⟩
    intro a' t' p' e h'
    cases e
    obtain ⟨rfl, rfl⟩ := dy_inj hA h'
    rfl
  unfold t_Dyadic_m_age
  repeat walk_at "mst"
  refine k_iteD (fun hc => ?_) (fun hc => ?_)
  · repeat walk_at "mst"
    exact fin _ (if_pos hc)
  · repeat walk_at "mst"
    exact fin _ (if_neg hc)
theorem use_age {K : PySem.W.Frag} {H : Hp} {Q : VK} {E : XK} {a : Addr} {t p : Int} (h : DyAt K H a t p) (h0 : 0 ≤ p) (q : Q (.int (ageZ t p)) H) : sp_Dyadic_m_age K (.ref a :: ([] ++ [])) H Q E :=
  ⟨⟨a, t, p, rfl, h, h0⟩, fun _ _ ⟨e, e'⟩ => by rw [e a t p rfl h, e']; exact q⟩
local macro_rules | `(tactic| walk_at "mst") => `(tactic| ((with_reducible refine use_age (t := ?_) (p := ?_) ?_ ?_ ?_); rotate_left 2; (focus walk_at "mdy"); (focus first | assumption | omega | exact (plainZ_le _ _).1)))
/-- thing: an int -/
def sp_law_is_integer (K : PySem.W.Frag) : Sp := spR (fun vs H => ∃ i : Int, vs = [.int i]) (fun vs H v H' => v = .bl true ∧ H' = H)
abbrev N_law_is_integer : List Str := ["thing"]
def t_law_is_integer (K : PySem.W.Frag) (E : XK) : TS := (tRet (tAndV (tCB (rIsi K) (tCons (tVar 0) (tCons (tC (.ty "int")) tNil))) (tNotV (tCB (rIsi K) (tCons (tVar 0) (tCons (tC (.ty "bool")) tNil))))))
theorem len_law_is_integer {K : PySem.W.Frag} {vs : List V} {H : Hp} {Q : VK} {E : XK} (h : sp_law_is_integer K vs H Q E) : vs.length = 1 := by
  obtain ⟨⟨_, rfl⟩, _⟩ := h; rfl
theorem pure_law_is_integer {K : PySem.W.Frag} (vs : List V) (H : Hp) (Q : VK) (E : XK) (h : sp_law_is_integer K vs H Q E) : t_law_is_integer K E { nx := fun _ H' => Q .non H', rt := Q } (start N_law_is_integer vs) H := by
  obtain ⟨⟨i, rfl⟩, q⟩ := h
  unfold t_law_is_integer
  repeat walk_at "mst"
  exact q _ _ ⟨rfl, rfl⟩
theorem use_is_integer {K : PySem.W.Frag} {H : Hp} {Q : VK} {E : XK} {i : Int} (q : Q (.bl true) H) : sp_law_is_integer K ([.int i] ++ []) H Q E :=
  ⟨⟨i, rfl⟩, fun _ _ ⟨e, e'⟩ => by rw [e, e']; exact q⟩
local macro_rules | `(tactic| walk_at "mst") => `(tactic| with_reducible refine use_is_integer ?_)
def sp_law_age (K : PySem.W.Frag) : Sp := spR (fun vs H => ∃ (a b : Int), vs = [.int a, .int b] ∧ 0 ≤ b ∧ b ≤ 64)
  (fun vs H v H' => (∃ a b : Int, vs = [.int a, .int b] ∧ v = .int (ageZ (plainZ a b.toNat).1 (plainZ a b.toNat).2)) ∧ Ex H H')
abbrev N_law_age : List Str := ["top", "power", "plain"]
def t_law_age (K : PySem.W.Frag) (E : XK) : TS := (tSeq (tAsg (tCall (sp_law_plain K) [] E0 (tCons (tVar 0) (tCons (tVar 1) tNil))) (gName 2)) (tSeq (tIfS (tTest (tOp rEq (tOp (rIxT K) (tVar 2) (tC (.int 1))) (tC (.int 0)))) (tRet (tCB rAbsI (tCons (tOp (rIxT K) (tVar 2) (tC (.int 0))) tNil))) tNext) (tRet (tOp rAddI (tOp rAddI (tOp rDivW (tCB rAbsI (tCons (tOp (rIxT K) (tVar 2) (tC (.int 0))) tNil)) (tOp rShlI (tC (.int 1)) (tOp (rIxT K) (tVar 2) (tC (.int 1))))) (tOp (rIxT K) (tVar 2) (tC (.int 1)))) (tC (.int 1))))))
theorem len_law_age {K : PySem.W.Frag} {vs : List V} {H : Hp} {Q : VK} {E : XK} (h : sp_law_age K vs H Q E) : vs.length = 2 := by
  obtain ⟨⟨_, _, rfl, _⟩, _⟩ := h; rfl
theorem pow_lt_wide {n : Nat} (h : n ≤ 64) : ((2 : Int) ^ n).natAbs < 2 ^ 65 := by
  rw [Int.natAbs_pow]
  exact Nat.pow_lt_pow_right (by decide) (by omega)
theorem pure_law_age {K : PySem.W.Frag} (vs : List V) (H : Hp) (Q : VK) (E : XK) (h : sp_law_age K vs H Q E) : t_law_age K E { nx := fun _ H' => Q .non H', rt := Q } (start N_law_age vs) H := by
  obtain ⟨⟨a, b, rfl, h0, h1⟩, q⟩ := h
  unfold t_law_age
  repeat walk_at "mst"
  refine ⟨⟨a, b, rfl, h0, h1⟩, ?_⟩
  rintro v H1 ⟨_, _, p, e, rfl, hp, rfl⟩
  cases e
  have hpl := plainZ_le a b.toNat
  generalize hz : plainZ a b.toNat = z at hpl
  have fin : ∀ i H', i = ageZ z.1 z.2 → H' = upd H p (.tup [.int z.1, .int z.2]) → Q (.int i) H' := by
    rintro i H' rfl rfl
    exact q _ _ ⟨⟨a, b, rfl, by rw [hz]⟩, Evl.Ex.new hp⟩
  repeat walk_at "mst"
  refine k_ixT (k_st upd_same) (show _ = some (V.int z.2) from rfl) ?_
  repeat walk_at "mst"
  refine k_iteD (fun hc => ?_) (fun hc => ?_)
  · repeat walk_at "mst"
    refine k_ixT (k_st upd_same) (show _ = some (V.int z.1) from rfl) ?_
    repeat walk_at "mst"
    exact fin _ _ (if_pos hc).symm rfl
  · repeat walk_at "mst"
    refine k_ixT (k_st upd_same) (show _ = some (V.int z.1) from rfl) ?_
    repeat walk_at "mst"
    refine k_ixT (k_st upd_same) (show _ = some (V.int z.2) from rfl) ?_
    repeat walk_at "mst"
    rename_i m hm1 hm2
    subst hm2
    refine k_I (wide_div (by omega) (pow_lt_wide (n := z.2.toNat) (by omega)) (by decide) (by decide)) ?_
    repeat walk_at "mst"
    refine k_ixT (k_st upd_same) (show _ = some (V.int z.2) from rfl) ?_
    repeat walk_at "mst"
    exact fin _ _ (if_neg hc).symm rfl
theorem use_law_age {K : PySem.W.Frag} {H : Hp} {Q : VK} {E : XK} {a b : Int} (h : 0 ≤ b ∧ b ≤ 64) (q : ∀ H', Ex H H' → Q (.int (ageZ (plainZ a b.toNat).1 (plainZ a b.toNat).2)) H') : sp_law_age K ([.int a, .int b] ++ []) H Q E := by
  refine ⟨⟨a, b, rfl, h.1, h.2⟩, ?_⟩
  rintro v H' ⟨⟨a', b', e, rfl⟩, h1⟩
  cases e
  exact q H' h1
def sp_law_aged (K : PySem.W.Frag) : Sp := spR (fun vs H => ∃ (a b : Int), vs = [.int a, .int b] ∧ okTop a b)
  (fun vs H v H' => v = .bl true ∧ Ex H H')
abbrev N_law_aged : List Str := ["top", "power", "told"]
def t_law_aged (K : PySem.W.Frag) (E : XK) : TS := (tSeq (tAsg (tMeth (He.ga K "Dyadic") "age" (sp_Dyadic_m_age K) [] E0 (tMake (He.ga K "Dyadic") (sp_Dyadic_d_init K) [] E0 (tCons (tVar 0) (tCons (tVar 1) tNil))) tNil) (gName 2)) (tRet (tAndV (tCall (sp_law_is_integer K) [] E0 (tCons (tVar 2) tNil)) (tOp rEq (tVar 2) (tCall (sp_law_age K) [] E0 (tCons (tVar 0) (tCons (tVar 1) tNil)))))))
theorem len_law_aged {K : PySem.W.Frag} {vs : List V} {H : Hp} {Q : VK} {E : XK} (h : sp_law_aged K vs H Q E) : vs.length = 2 := by
  obtain ⟨⟨_, _, rfl, _⟩, _⟩ := h; rfl
theorem pure_law_aged {K : PySem.W.Frag} (vs : List V) (H : Hp) (Q : VK) (E : XK) (h : sp_law_aged K vs H Q E) : t_law_aged K E { nx := fun _ H' => Q .non H', rt := Q } (start N_law_aged vs) H := by
  obtain ⟨⟨a, b, rfl, ok⟩, q⟩ := h
  unfold t_law_aged
  repeat walk_at "mst"
  refine mk_dy ok ?_
  intro x H1 hx e1 hA
  have hpl := plainZ_le a b.toNat
  repeat walk_at "mst"
  refine ⟨⟨a, b, rfl, ok.2.1, by have := ok.2.2; omega⟩, ?_⟩
  rintro v H4 ⟨⟨a', b', e, rfl⟩, e4⟩
  cases e
  repeat walk_at "mst"
  exact q _ _ ⟨by rw [decide_eq_true rfl], e1.trans e4⟩
theorem use_aged {K : PySem.W.Frag} {H : Hp} {Q : VK} {E : XK} {a b : Int} (h : okTop a b) (q : ∀ H', Ex H H' → Q (.bl true) H') : sp_law_aged K ([.int a, .int b] ++ []) H Q E :=
  ⟨⟨a, b, rfl, h⟩, fun _ H' ⟨e, e'⟩ => by rw [e]; exact q H' e'⟩
def sp_law_steps (K : PySem.W.Frag) : Sp := spR (fun vs H => ∃ (t : Int) (p : Nat), vs = [.int t, .int (p : Int)] ∧ p ≤ 40 ∧ (p = 0 ∨ t % 2 = 1) ∧ t.natAbs ≤ 50 * 2 ^ p)
  (fun vs H v H' => (∃ (t : Int) (p : Nat), vs = [.int t, .int (p : Int)] ∧ v = .int (ageZ t p)) ∧ H' = H)
abbrev N_law_steps : List Str := ["top", "power", "goal", "one", "here", "low", "high", "k"]
def t_law_steps (K : PySem.W.Frag) (E : XK) : TS := (tSeq (tAsg (tOp rShlI (tVar 0) (tOp rSubI (tC (.int 40)) (tVar 1))) (gName 2)) (tSeq (tAsg (tOp rShlI (tC (.int 1)) (tC (.int 40))) (gName 3)) (tSeq (tAsg (tC (.int 0)) (gName 4)) (tSeq (tAsg (tC .non) (gName 5)) (tSeq (tAsg (tC .non) (gName 6)) (tSeq (tFor (iRng1 (tCons (tC (.int 200)) tNil)) (gName 7) (tSeq (tIfS (tTest (tOp rEq (tVar 4) (tVar 2))) (tRet (tVar 7)) tNext) (tIfS (tTest (tOp rLtI (tVar 4) (tVar 2))) (tSeq (tAsg (tVar 4) (gName 5)) (tAsg (tIf (tTest (tOp rIsN (tVar 6) (tC .non))) (tOp rAddI (tVar 4) (tVar 3)) (tOp rDivI (tOp rAddI (tVar 4) (tVar 6)) (tC (.int 2)))) (gName 4))) (tSeq (tAsg (tVar 4) (gName 6)) (tAsg (tIf (tTest (tOp rIsN (tVar 5) (tC .non))) (tOp rSubI (tVar 4) (tVar 3)) (tOp rDivI (tOp rAddI (tVar 4) (tVar 5)) (tC (.int 2)))) (gName 4)))))) (tRet (tUn rNegI (tC (.int 1))))))))))
theorem len_law_steps {K : PySem.W.Frag} {vs : List V} {H : Hp} {Q : VK} {E : XK} (h : sp_law_steps K vs H Q E) : vs.length = 2 := by
  obtain ⟨⟨_, _, rfl, _⟩, _⟩ := h; rfl
def ov : Option Int → V
  | none => .non
  | some i => .int i
def sg (b : Bool) (x : Int) : Int := if b then x else -x
theorem ageZ_abs (t : Int) (p : Nat) : ageZ t p = ((if p = 0 then t.natAbs else t.natAbs / 2 ^ p + p + 1 : Nat) : Int) := by
  unfold ageZ
  rw [abs_if]
  by_cases h : p = 0
  · subst h; rfl
  · rw [if_neg (by omega), if_neg h, Int.toNat_natCast]
    push_cast; rfl
theorem goal_sign (t : Int) (p : Nat) : t * 2 ^ (40 - p) = sg (decide (0 ≤ t)) (goalN t.natAbs p) := by
  unfold sg goalN
  by_cases h : 0 ≤ t
  · rw [decide_eq_true h, if_pos rfl]
    congr 1; omega
  · rw [decide_eq_false h, if_neg (by decide), ← Int.neg_mul]
    congr 1; omega
theorem pure_law_steps {K : PySem.W.Frag} (vs : List V) (H : Hp) (Q : VK) (E : XK) (h : sp_law_steps K vs H Q E) : t_law_steps K E { nx := fun _ H' => Q .non H', rt := Q } (start N_law_steps vs) H := by
  obtain ⟨⟨t, p, rfl, hp, hodd, hsm⟩, q⟩ := h
  have hsm2 : t.natAbs < 2 ^ 64 := by
    have h1 : 2 ^ p ≤ 2 ^ 40 := Nat.pow_le_pow_right (by decide) hp
    have h2 : (2 : Nat) ^ 40 = 1099511627776 := by decide
    have h3 : (2 : Nat) ^ 64 = 18446744073709551616 := by decide
    omega
  have hodd' : p = 0 ∨ t.natAbs % 2 = 1 := by omega
  unfold t_law_steps
  repeat walk_at "mst"
  rename_i one h1 h2
  have e1 : one = UU := by rw [h2]; decide
  have e2 : ((40 : Int) - p).toNat = 40 - p := by omega
  rw [e2, goal_sign, e1]
  clear h1 h2 e1 e2
  generalize hb : decide (0 ≤ t) = b
  refine ⟨_, rfl, by decide, by decide, forK_range (fun i σ H' => H' = H ∧ ∃ (x : Int) (nb fb : Option Int) (v : Option V), WA t.natAbs p i x nb fb ∧
    σ = [some (.int t), some (.int (p : Int)), some (.int (sg b (goalN t.natAbs p))), some (.int UU), some (.int (sg b x)), some (ov (if b then nb else fb.map (fun z => -z))), some (ov (if b then fb else nb.map (fun z => -z))), v]) ?_ ?_ ?_⟩
  · exact ⟨rfl, 0, none, none, none, WA.start, by cases b <;> rfl⟩
  · rintro i σ H' hi ⟨rfl, x, nb, fb, v, hw, rfl⟩
    repeat walk_at "mst"
    refine k_iteD (fun hc => ?_) (fun hc => ?_)
    · repeat walk_at "mst"
      have hx : x = goalN t.natAbs p := by
        unfold sg at hc
        cases b <;> simp at hc <;> omega
      refine q _ _ ⟨⟨t, p, rfl, ?_⟩, rfl⟩
      rw [ageZ_abs, WA.here hp hodd' hw hx]
    · repeat walk_at "mst"
      cases b
      · -- below 0
        simp only [sg, Bool.false_eq_true, if_false] at hc ⊢
        refine k_iteD (fun hl => ?_) (fun hl => ?_)
        · obtain ⟨n0, x', rfl, hx', hw'⟩ := WA.above hp hw (by omega)
          repeat walk_at "mst"
          refine k_iteD (fun hn => by cases hn) (fun _ => ?_)
          repeat walk_at "mst"
          refine k_I0 (i := -x) (j := -n0) ?_
          repeat walk_at "mst"
          have e3 : (-x + -n0) / 2 = -x' := by omega
          rw [e3]
          exact ⟨rfl, x', some n0, some x, _, hw', rfl⟩
        · obtain ⟨w1, w2⟩ := WA.below hp hw (by omega)
          repeat walk_at "mst"
          cases fb with
          | none =>
            refine k_iteD (fun _ => ?_) (fun hn => absurd rfl hn)
            repeat walk_at "mst"
            have e3 : -x - UU = -(x + UU) := by omega
            rw [e3]
            exact ⟨rfl, x + UU, some x, none, _, w1 rfl, rfl⟩
          | some f =>
            refine k_iteD (fun hn => by cases hn) (fun _ => ?_)
            obtain ⟨x', hx', hw'⟩ := w2 f rfl
            repeat walk_at "mst"
            refine k_I0 (i := -x) (j := -f) ?_
            repeat walk_at "mst"
            have e3 : (-x + -f) / 2 = -x' := by omega
            rw [e3]
            exact ⟨rfl, x', some x, some f, _, hw', rfl⟩
      · simp only [sg, if_true] at hc ⊢
        refine k_iteD (fun hl => ?_) (fun hl => ?_)
        · obtain ⟨w1, w2⟩ := WA.below hp hw hl
          repeat walk_at "mst"
          cases fb with
          | none =>
            refine k_iteD (fun _ => ?_) (fun hn => absurd rfl hn)
            repeat walk_at "mst"
            exact ⟨rfl, x + UU, some x, none, _, w1 rfl, rfl⟩
          | some f =>
            refine k_iteD (fun hn => by cases hn) (fun _ => ?_)
            obtain ⟨x', hx', hw'⟩ := w2 f rfl
            repeat walk_at "mst"
            refine k_I0 (i := x) (j := f) ?_
            repeat walk_at "mst"
            have e3 : (x + f) / 2 = x' := by omega
            rw [e3]
            exact ⟨rfl, x', some x, some f, _, hw', rfl⟩
        · obtain ⟨n0, x', rfl, hx', hw'⟩ := WA.above hp hw (by omega)
          repeat walk_at "mst"
          refine k_iteD (fun hn => by cases hn) (fun _ => ?_)
          repeat walk_at "mst"
          refine k_I0 (i := x) (j := n0) ?_
          repeat walk_at "mst"
          have e3 : (x + n0) / 2 = x' := by omega
          rw [e3]
          exact ⟨rfl, x', some n0, some x, _, hw', rfl⟩
  · rintro σ H' ⟨rfl, x, nb, fb, v, hw, rfl⟩
    have := WA.few hp hsm hw
    exfalso
    have : (200 : Int).toNat = 200 := rfl
    omega
theorem use_steps {K : PySem.W.Frag} {H : Hp} {Q : VK} {E : XK} {t p : Int} (h0 : 0 ≤ p ∧ p ≤ 40) (ho : p = 0 ∨ t % 2 = 1) (hs : t.natAbs ≤ 50 * 2 ^ p.toNat) (q : Q (.int (ageZ t p)) H) : sp_law_steps K ([.int t, .int p] ++ []) H Q E := by
  obtain ⟨n, rfl⟩ := Int.eq_ofNat_of_zero_le h0.1
  refine ⟨⟨t, n, rfl, by omega, by omega, hs⟩, ?_⟩
  rintro v H' ⟨⟨t', p', e, rfl⟩, rfl⟩
  have e1 : t = t' := by
    have := List.cons.inj e
    exact V.int.inj this.1
  have e2 : (n : Int) = p' := by
    have := List.cons.inj (List.cons.inj e).2
    exact V.int.inj this.1
  rw [← e1, ← e2]; exact q
def sp_law (K : PySem.W.Frag) : Sp := spR (fun vs H => ∃ (a : Addr) (ns : List Int), vs = [.ref a] ∧ SqL K H a (ns.map V.int)) (fun _ _ v _ => v = .bl true)
abbrev N_law : List Str := ["script", "pair", "size", "plain", "number", "age"]
def t_law (K : PySem.W.Frag) (E : XK) : TS := (tSeq (tAsg (tCall (sp_law_pair K) [] E0 (tCons (tCall (sp_law_cell K) [] E0 (tCons (tVar 0) (tCons (tC (.int 0)) tNil))) (tCons (tCall (sp_law_cell K) [] E0 (tCons (tVar 0) (tCons (tC (.int 1)) tNil))) tNil))) (gName 1)) (Evl.tCut (tIfS (tTest (tOp rEq (tOp rModI (tOp (rIxL K) (tCall (sp_law_digits K) [] E0 (tCons (tCall (sp_law_cell K) [] E0 (tCons (tVar 0) (tCons (tC (.int 2)) tNil))) (tCons (tC (.int 1)) tNil))) (tC (.int 0))) (tC (.int 2))) (tC (.int 0)))) (tSeq (tAsg (tCB rMin2 (tCons (tOp rPowI (tC (.int 10)) (tC (.int 12))) (tCons (tOp rShlI (tC (.int 50)) (tOp (rIxT K) (tVar 1) (tC (.int 1)))) tNil))) (gName 2)) (tAsg (tTup (tCons (tOp rSubI (tOp rModI (tCB rIntI (tCons (tOp (rIxT K) (tVar 1) (tC (.int 0))) tNil)) (tOp rAddI (tOp rMulI (tC (.int 2)) (tVar 2)) (tC (.int 1)))) (tVar 2)) (tCons (tOp (rIxT K) (tVar 1) (tC (.int 1))) tNil))) (gName 1))) tNext) (tSeq (tAsg (tCall (sp_law_plain K) [] E0 (tCons (tOp (rIxT K) (tVar 1) (tC (.int 0))) (tCons (tOp (rIxT K) (tVar 1) (tC (.int 1))) tNil))) (gName 3)) (tSeq (tAsg (tMake (He.ga K "Dyadic") (sp_Dyadic_d_init K) [] E0 (tCons (tOp (rIxT K) (tVar 1) (tC (.int 0))) (tCons (tOp (rIxT K) (tVar 1) (tC (.int 1))) tNil))) (gName 4)) (tSeq (tAsg (tMeth (He.ga K "Dyadic") "age" (sp_Dyadic_m_age K) [] E0 (tVar 4) tNil) (gName 5)) (tSeq (tIfS (tOr (tNot (tB (tCall (sp_law_is_integer K) [] E0 (tCons (tVar 5) tNil)))) (tTest (tOp rNe (tVar 5) (tCall (sp_law_age K) [] E0 (tCons (tOp (rIxT K) (tVar 3) (tC (.int 0))) (tCons (tOp (rIxT K) (tVar 3) (tC (.int 1))) tNil)))))) (tRet (tC (.bl false))) tNext) (tSeq (tIfS (tOr (tNot (tB (tCall (sp_law_aged K) [] E0 (tCons (tUn rNegI (tOp (rIxT K) (tVar 3) (tC (.int 0)))) (tCons (tOp (rIxT K) (tVar 3) (tC (.int 1))) tNil))))) (tNot (tB (tCall (sp_law_aged K) [] E0 (tCons (tOp (rIxT K) (tVar 1) (tC (.int 0))) (tCons (tOp (rIxT K) (tVar 1) (tC (.int 1))) tNil)))))) (tRet (tC (.bl false))) tNext) (tSeq (tIfS (tAnd (tTest (tOp rLeI (tCB rAbsI (tCons (tOp (rIxT K) (tVar 3) (tC (.int 0))) tNil)) (tOp rShlI (tC (.int 50)) (tOp (rIxT K) (tVar 3) (tC (.int 1)))))) (tTest (tOp rNe (tVar 5) (tCall (sp_law_steps K) [] E0 (tCons (tOp (rIxT K) (tVar 3) (tC (.int 0))) (tCons (tOp (rIxT K) (tVar 3) (tC (.int 1))) tNil)))))) (tRet (tC (.bl false))) tNext) (tSeq (tIfS (tTest (tOp rGtI (tOp (rIxT K) (tVar 3) (tC (.int 1))) (tC (.int 0)))) (tSeq (tIfS (tOr (tNot (tB (tCall (sp_law_aged K) [] E0 (tCons (tOp rSubI (tOp (rIxT K) (tVar 3) (tC (.int 0))) (tC (.int 1))) (tCons (tOp (rIxT K) (tVar 3) (tC (.int 1))) tNil))))) (tNot (tB (tCall (sp_law_aged K) [] E0 (tCons (tOp rAddI (tOp (rIxT K) (tVar 3) (tC (.int 0))) (tC (.int 1))) (tCons (tOp (rIxT K) (tVar 3) (tC (.int 1))) tNil)))))) (tRet (tC (.bl false))) tNext) (tRet (tOp rEq (tVar 5) (tOp rAddI (tC (.int 1)) (tCB rMax2 (tCons (tMeth (He.ga K "Dyadic") "age" (sp_Dyadic_m_age K) [] E0 (tMake (He.ga K "Dyadic") (sp_Dyadic_d_init K) [] E0 (tCons (tOp rSubI (tOp (rIxT K) (tVar 3) (tC (.int 0))) (tC (.int 1))) (tCons (tOp (rIxT K) (tVar 3) (tC (.int 1))) tNil))) tNil) (tCons (tMeth (He.ga K "Dyadic") "age" (sp_Dyadic_m_age K) [] E0 (tMake (He.ga K "Dyadic") (sp_Dyadic_d_init K) [] E0 (tCons (tOp rAddI (tOp (rIxT K) (tVar 3) (tC (.int 0))) (tC (.int 1))) (tCons (tOp (rIxT K) (tVar 3) (tC (.int 1))) tNil))) tNil) tNil))))))) tNext) (tSeq (tIfS (tTest (tOp rEq (tOp (rIxT K) (tVar 3) (tC (.int 0))) (tC (.int 0)))) (tRet (tOp rEq (tVar 5) (tC (.int 0)))) tNext) (tRet (tAndV (tOp rEq (tVar 5) (tOp rAddI (tC (.int 1)) (tMeth (He.ga K "Dyadic") "age" (sp_Dyadic_m_age K) [] E0 (tMake (He.ga K "Dyadic") (sp_Dyadic_d_init K) [.int 0] E0 (tCons (tOp rSubI (tCB rAbsI (tCons (tOp (rIxT K) (tVar 3) (tC (.int 0))) tNil)) (tC (.int 1))) tNil)) tNil))) (tOp rEq (tMeth (He.ga K "Dyadic") "age" (sp_Dyadic_m_age K) [] E0 (tVar 4) tNil) (tVar 5))))))))))))))
theorem len_law {K : PySem.W.Frag} {vs : List V} {H : Hp} {Q : VK} {E : XK} (h : sp_law K vs H Q E) : vs.length = 1 := by
  obtain ⟨⟨_, _, rfl, _⟩, _⟩ := h; rfl
theorem pure_law {K : PySem.W.Frag} (vs : List V) (H : Hp) (Q : VK) (E : XK) (h : sp_law K vs H Q E) : t_law K E { nx := fun _ H' => Q .non H', rt := Q } (start N_law vs) H := by
  obtain ⟨⟨a, ns, rfl, hS⟩, q⟩ := h
  have fin : ∀ b H', b = true → Q (.bl b) H' := by rintro b H' rfl; exact q _ _ rfl
  unfold t_law
  repeat walk_at "mst"
  refine use_cell hS (by decide) fun c0 => ?_
  repeat walk_at "mst"
  refine use_cell hS (by decide) fun c1 => ?_
  repeat walk_at "mst"
  refine use_pair fun p1 x1 y1 H1 hp1 e1 hp1' hx1 hy1 => ?_
  repeat walk_at "mst"
  refine k_cut (fun σ' H' => ∃ (p : Addr) (x y : Int) (z : Option V), Ex H H' ∧ H' p = some (.tup [.int x, .int y]) ∧ okTop x y ∧ σ' = [some (.ref a), some (.ref p), z, none, none, none]) ?_ ?_
  · repeat walk_at "mst"
    refine use_cell (Evl.ex_l e1 hS) (by decide) fun c2 => ?_
    repeat walk_at "mst"
    refine use_digits ⟨by decide, by decide⟩ fun pd ds H2 hpd e2 hds hn hb => ?_
    obtain ⟨d0, a0, b0⟩ := dg_at hb (k := 0) (by omega)
    repeat walk_at "mst"
    refine k_ixL (k_sq hds) a0 ?_
    repeat walk_at "mst"
    refine k_iteD (fun hc => ?_) (fun hc => ?_)
    · repeat walk_at "mst"
      have hp2 := part_pos y1.toNat
      rename_i size hs1 hs2 hs3
      have hs0 : 1 ≤ size := by omega
      repeat walk_at "mst"
      generalize hT : x1 % (2 * size + 1) - size = top
      have ht : -1000000000000 ≤ top ∧ top ≤ 1000000000000 := by
        have h1 := Int.emod_nonneg x1 (by omega : 2 * size + 1 ≠ 0)
        have h2 := Int.emod_lt_of_pos x1 (by omega : 0 < 2 * size + 1)
        omega
      refine ⟨two_le _ _, fun p hp => ?_⟩
      repeat walk_at "mst"
      exact ⟨p, top, y1, _, (e1.trans e2).trans (Evl.Ex.new hp), upd_same, ⟨ht, hy1⟩, rfl⟩
    · repeat walk_at "mst"
      exact ⟨p1, x1, y1, none, e1.trans e2, e2 _ _ hp1', ⟨hx1, hy1⟩, rfl⟩
  · rintro σ' H2 ⟨p, x, y, z, e2, hp, ok, rfl⟩
    repeat walk_at "mst"
    refine use_plain ⟨ok.2.1, by have := ok.2.2; omega⟩ fun pp hpp => ?_
    repeat walk_at "mst"
    have hpl0 : upd H2 pp (HO.tup [V.int (plainZ x y.toNat).1, V.int (plainZ x y.toNat).2]) pp = some (HO.tup [V.int (plainZ x y.toNat).1, V.int (plainZ x y.toNat).2]) := upd_same
    have ep : Ex H2 (upd H2 pp (HO.tup [V.int (plainZ x y.toNat).1, V.int (plainZ x y.toNat).2])) := Evl.Ex.new hpp
    have hpw := plainZ_le x y.toNat
    have hpo := plainZ_plain x y.toNat
    have hpi := plainZ_idem x y.toNat
    have hpa := plainZ_le_abs x y.toNat
    generalize upd H2 pp (HO.tup [V.int (plainZ x y.toNat).1, V.int (plainZ x y.toNat).2]) = H3 at hpl0 ep ⊢
    obtain ⟨⟨ok1, ok2⟩, ok3, ok4⟩ := id ok
    repeat walk_at "mst"
    refine mk_dy ok fun xn H4 hxn e4 hA => ?_
    generalize hz : plainZ x y.toNat = tw at *
    obtain ⟨t, w⟩ := tw
    simp only at hpw hpo hpi hpa hA hpl0
    repeat walk_at "mst"
    repeat walk_at "mst"
    repeat walk_at "mst"
    refine use_law_age ⟨hpw.1, by omega⟩ fun H5 e5 => ?_
    rw [hpi]
    repeat walk_at "mst"
    refine k_iteD (fun hn => absurd rfl hn) (fun _ => ?_)
    repeat walk_at "mst"
    have okt : okTop (-t) w := ⟨by omega, by omega, by omega⟩
    refine use_aged okt fun H6 e6 => ?_
    repeat walk_at "mst"
    refine use_aged ok fun H7 e7 => ?_
    repeat walk_at "mst"
    -- the steps
    rw [abs_if t]
    refine k_iteD (fun hle => ?_) (fun _ => ?_)
    focus
      repeat walk_at "mst"
      have hwn : (w.toNat : Int) = w := by omega
      have hs : t.natAbs ≤ 50 * 2 ^ w.toNat := by exact_mod_cast hle
      refine use_steps ⟨hpw.1, by omega⟩ (by omega) hs ?_
      repeat walk_at "mst"
      refine k_iteD (fun hn => absurd rfl hn) (fun _ => ?_)
    all_goals
      repeat walk_at "mst"
      refine k_iteD (fun hw => ?_) (fun hw => ?_)
      · repeat walk_at "mst"
        have oka : okTop (t - 1) w := ⟨by omega, by omega, by omega⟩
        have okb : okTop (t + 1) w := ⟨by omega, by omega, by omega⟩
        refine use_aged oka fun H8 e8 => ?_
        repeat walk_at "mst"
        refine use_aged okb fun H9 e9 => ?_
        repeat walk_at "mst"
        refine mk_dy oka fun xa HA hxa ea hAa => ?_
        repeat walk_at "mst"
        repeat walk_at "mst"
        refine mk_dy okb fun xb HB hxb eb hAb => ?_
        repeat walk_at "mst"
        repeat walk_at "mst"
        refine fin _ _ (decide_eq_true ?_)
        rename_i m m1 m2 m3
        obtain ⟨k, hk⟩ : ∃ k, w.toNat = k + 1 := ⟨w.toNat - 1, by omega⟩
        have A0 := ageZ_N t w.toNat
        rw [hpi] at A0
        rw [ageZ_N (t - 1), hk] at m1
        rw [ageZ_N (t + 1), hk] at m2
        rw [ageZ_N (t - 1), ageZ_N (t + 1), hk] at m3
        have an := age_next (n := t.natAbs) (p := k) (by omega)
        rw [hk] at A0
        simp only at A0
        rw [A0]
        rcases Int.lt_or_le 0 t with ht | ht
        · have q1 : (t - 1).natAbs = t.natAbs - 1 := by omega
          have q2 : (t + 1).natAbs = t.natAbs + 1 := by omega
          rw [q1] at m1 m3
          rw [q2] at m2 m3
          omega
        · have q1 : (t - 1).natAbs = t.natAbs + 1 := by omega
          have q2 : (t + 1).natAbs = t.natAbs - 1 := by omega
          rw [q1] at m1 m3
          rw [q2] at m2 m3
          omega
      · repeat walk_at "mst"
        refine k_iteD (fun h0 => ?_) (fun h0 => ?_)
        · repeat walk_at "mst"
          refine fin _ _ (decide_eq_true ?_)
          have hw0 : w = 0 := by omega
          rw [h0, hw0]; rfl
        · repeat walk_at "mst"
          have hw0 : w = 0 := by omega
          subst hw0
          rw [abs_if t]
          refine mk_dy1 (by omega) fun xc HC hxc ec hAc => ?_
          repeat walk_at "mst"
          repeat walk_at "mst"
          refine k_iteD (fun _ => ?_) (fun hn => absurd ?_ hn)
          · repeat walk_at "mst"
            repeat walk_at "mst"
            exact fin _ _ (decide_eq_true rfl)
          · have e1 : ∀ z : Int, ageZ z 0 = z.natAbs := fun z => by
              unfold ageZ; rw [if_pos rfl, abs_if]
            rw [e1, e1]; omega
def top (i : Nat) : Stmt := PySem.Challenge.pw_sumsplay_k06_age.main.body.getD i (.Pass ⟨0, 0, 0, 0⟩)
abbrev s_law_digits : Stmt := top 14
abbrev R_law_digits : List Str := ["cell", "count", "row", "k", "seed"]
theorem sc_law_digits : FnScope R_law_digits ["cell", "count"] (defScope s_law_digits) := ⟨rfl, rfl, rfl, by decide +kernel, rfl, by decide +kernel, by decide +kernel⟩
abbrev ad_law_digits (K : PySem.W.Frag) : Addr := He.ga K "_law_digits"
abbrev s_law_pair : Stmt := top 17
abbrev R_law_pair : List Str := ["cell", "shape", "digits", "power", "most", "top", "size"]
theorem sc_law_pair : FnScope R_law_pair ["cell", "shape"] (defScope s_law_pair) := ⟨rfl, rfl, rfl, by decide +kernel, rfl, by decide +kernel, by decide +kernel⟩
abbrev ad_law_pair (K : PySem.W.Frag) : Addr := He.ga K "_law_pair"
abbrev s_law_cell : Stmt := top 13
abbrev R_law_cell : List Str := ["script", "k", "mixed", "cell"]
theorem sc_law_cell : FnScope R_law_cell ["script", "k"] (defScope s_law_cell) := ⟨rfl, rfl, rfl, by decide +kernel, rfl, by decide +kernel, by decide +kernel⟩
abbrev ad_law_cell (K : PySem.W.Frag) : Addr := He.ga K "_law_cell"
abbrev s_law_plain : Stmt := top 16
abbrev R_law_plain : List Str := ["top", "power", "k"]
theorem sc_law_plain : FnScope R_law_plain ["top", "power"] (defScope s_law_plain) := ⟨rfl, rfl, rfl, by decide +kernel, rfl, by decide +kernel, by decide +kernel⟩
abbrev ad_law_plain (K : PySem.W.Frag) : Addr := He.ga K "_law_plain"
abbrev s_is_whole : Stmt := top 5
abbrev R_is_whole : List Str := ["thing", "least", "most"]
theorem sc_is_whole : FnScope R_is_whole ["thing", "least", "most"] (defScope s_is_whole) := ⟨rfl, rfl, rfl, by decide +kernel, rfl, by decide +kernel, by decide +kernel⟩
abbrev ad_is_whole (K : PySem.W.Frag) : Addr := He.ga K "is_whole"
abbrev s_plain : Stmt := top 10
abbrev R_plain : List Str := ["top", "power"]
theorem sc_plain : FnScope R_plain ["top", "power"] (defScope s_plain) := ⟨rfl, rfl, rfl, by decide +kernel, rfl, by decide +kernel, by decide +kernel⟩
abbrev ad_plain (K : PySem.W.Frag) : Addr := He.ga K "_plain"
abbrev s_Dyadic_d_init : Stmt := inClass (top 9) 0
abbrev R_Dyadic_d_init : List Str := ["self", "top", "power"]
theorem sc_Dyadic_d_init : FnScope R_Dyadic_d_init ["self", "top", "power"] (defScope s_Dyadic_d_init) := ⟨rfl, rfl, rfl, by decide +kernel, rfl, by decide +kernel, by decide +kernel⟩
abbrev ad_Dyadic_d_init (K : PySem.W.Frag) : Addr := He.ma K (He.ga K "Dyadic") "__init__"
abbrev s_Dyadic_m_age : Stmt := inClass (top 9) 10
abbrev R_Dyadic_m_age : List Str := ["self", "size"]
theorem sc_Dyadic_m_age : FnScope R_Dyadic_m_age ["self"] (defScope s_Dyadic_m_age) := ⟨rfl, rfl, rfl, by decide +kernel, rfl, by decide +kernel, by decide +kernel⟩
abbrev ad_Dyadic_m_age (K : PySem.W.Frag) : Addr := He.ma K (He.ga K "Dyadic") "age"
abbrev s_law_is_integer : Stmt := top 15
abbrev R_law_is_integer : List Str := ["thing"]
theorem sc_law_is_integer : FnScope R_law_is_integer ["thing"] (defScope s_law_is_integer) := ⟨rfl, rfl, rfl, by decide +kernel, rfl, by decide +kernel, by decide +kernel⟩
abbrev ad_law_is_integer (K : PySem.W.Frag) : Addr := He.ga K "_law_is_integer"
abbrev s_law_age : Stmt := top 18
abbrev R_law_age : List Str := ["top", "power", "plain"]
theorem sc_law_age : FnScope R_law_age ["top", "power"] (defScope s_law_age) := ⟨rfl, rfl, rfl, by decide +kernel, rfl, by decide +kernel, by decide +kernel⟩
abbrev ad_law_age (K : PySem.W.Frag) : Addr := He.ga K "_law_age"
abbrev s_law_aged : Stmt := top 20
abbrev R_law_aged : List Str := ["top", "power", "told"]
theorem sc_law_aged : FnScope R_law_aged ["top", "power"] (defScope s_law_aged) := ⟨rfl, rfl, rfl, by decide +kernel, rfl, by decide +kernel, by decide +kernel⟩
abbrev ad_law_aged (K : PySem.W.Frag) : Addr := He.ga K "_law_aged"
abbrev s_law_steps : Stmt := top 19
abbrev R_law_steps : List Str := ["top", "power", "goal", "one", "here", "low", "high", "k"]
theorem sc_law_steps : FnScope R_law_steps ["top", "power"] (defScope s_law_steps) := ⟨rfl, rfl, rfl, by decide +kernel, rfl, by decide +kernel, by decide +kernel⟩
abbrev ad_law_steps (K : PySem.W.Frag) : Addr := He.ga K "_law_steps"
abbrev s_law : Stmt := top 21
abbrev R_law : List Str := ["script", "pair", "size", "plain", "number", "age"]
theorem sc_law : FnScope R_law ["script"] (defScope s_law) := ⟨rfl, rfl, rfl, by decide +kernel, rfl, by decide +kernel, by decide +kernel⟩
abbrev ad_law (K : PySem.W.Frag) : Addr := He.ga K "law"
structure Txt (K : PySem.W.Frag) (mg : Str → Option Value) : Prop where
  g_BadValue : mg "BadValue" = some (.ref (He.ga K "BadValue"))
  g_Dyadic : mg "Dyadic" = some (.ref (He.ga K "Dyadic"))
  g__law_age : mg "_law_age" = some (.ref (He.ga K "_law_age"))
  g__law_aged : mg "_law_aged" = some (.ref (He.ga K "_law_aged"))
  g__law_cell : mg "_law_cell" = some (.ref (He.ga K "_law_cell"))
  g__law_digits : mg "_law_digits" = some (.ref (He.ga K "_law_digits"))
  g__law_is_integer : mg "_law_is_integer" = some (.ref (He.ga K "_law_is_integer"))
  g__law_pair : mg "_law_pair" = some (.ref (He.ga K "_law_pair"))
  g__law_plain : mg "_law_plain" = some (.ref (He.ga K "_law_plain"))
  g__law_steps : mg "_law_steps" = some (.ref (He.ga K "_law_steps"))
  g__plain : mg "_plain" = some (.ref (He.ga K "_plain"))
  g_is_whole : mg "is_whole" = some (.ref (He.ga K "is_whole"))
  g_law : mg "law" = some (.ref (He.ga K "law"))
  z_abs : mg "abs" = none
  z_bool : mg "bool" = none
  z_int : mg "int" = none
  z_isinstance : mg "isinstance" = none
  z_len : mg "len" = none
  z_max : mg "max" = none
  z_min : mg "min" = none
  z_range : mg "range" = none
  z_type : mg "type" = none
  c_MOST_POWER : ∃ t, mg "MOST_POWER" = some (.int (40) t)
  c_MOST_TOP : ∃ t, mg "MOST_TOP" = some (.int (1000000000000) t)
  cl_Dyadic : Cls K (He.ga K "Dyadic")
  x_BadValue : PySem.W.excIn K (He.ga K "BadValue") He.veBase "ValueError.__new__" = true ∧ PySem.W.keepIn K (.ref (He.ga K "BadValue")) = true ∧ PySem.W.subIn K (.ref (He.ga K "BadValue")) (.type "BaseException") = some true ∧ PySem.W.typeIn K (.ref (He.ga K "BadValue")) = some (.type "type")
  mt_Dyadic_age : Meth K (He.ga K "Dyadic") "age" (He.ma K (He.ga K "Dyadic") "age")
  mk_Dyadic : Mk K (He.ga K "Dyadic") (He.ma K (He.ga K "Dyadic") "__init__")
  na_Dyadic__power : NoAttr K (He.ga K "Dyadic") "_power"
  na_Dyadic__top : NoAttr K (He.ga K "Dyadic") "_top"
  d_law_digits : ∃ fd, FunD K "_law_digits" "_law_digits" (defArgs s_law_digits) (defBody s_law_digits) (defScope s_law_digits) [] [] (ad_law_digits K) fd
  d_law_pair : ∃ fd, FunD K "_law_pair" "_law_pair" (defArgs s_law_pair) (defBody s_law_pair) (defScope s_law_pair) [] [] (ad_law_pair K) fd
  d_law_cell : ∃ fd, FunD K "_law_cell" "_law_cell" (defArgs s_law_cell) (defBody s_law_cell) (defScope s_law_cell) [] [] (ad_law_cell K) fd
  d_law_plain : ∃ fd, FunD K "_law_plain" "_law_plain" (defArgs s_law_plain) (defBody s_law_plain) (defScope s_law_plain) [] [] (ad_law_plain K) fd
  d_is_whole : ∃ fd, FunD K "is_whole" "is_whole" (defArgs s_is_whole) (defBody s_is_whole) (defScope s_is_whole) [] [] (ad_is_whole K) fd
  d_plain : ∃ fd, FunD K "_plain" "_plain" (defArgs s_plain) (defBody s_plain) (defScope s_plain) [] [] (ad_plain K) fd
  d_Dyadic_d_init : ∃ fd, FunD K "__init__" "Dyadic.__init__" (defArgs s_Dyadic_d_init) (defBody s_Dyadic_d_init) (defScope s_Dyadic_d_init) [.int 0] [] (ad_Dyadic_d_init K) fd
  d_Dyadic_m_age : ∃ fd, FunD K "age" "Dyadic.age" (defArgs s_Dyadic_m_age) (defBody s_Dyadic_m_age) (defScope s_Dyadic_m_age) [] [] (ad_Dyadic_m_age K) fd
  d_law_is_integer : ∃ fd, FunD K "_law_is_integer" "_law_is_integer" (defArgs s_law_is_integer) (defBody s_law_is_integer) (defScope s_law_is_integer) [] [] (ad_law_is_integer K) fd
  d_law_age : ∃ fd, FunD K "_law_age" "_law_age" (defArgs s_law_age) (defBody s_law_age) (defScope s_law_age) [] [] (ad_law_age K) fd
  d_law_aged : ∃ fd, FunD K "_law_aged" "_law_aged" (defArgs s_law_aged) (defBody s_law_aged) (defScope s_law_aged) [] [] (ad_law_aged K) fd
  d_law_steps : ∃ fd, FunD K "_law_steps" "_law_steps" (defArgs s_law_steps) (defBody s_law_steps) (defScope s_law_steps) [] [] (ad_law_steps K) fd
  d_law : ∃ fd, FunD K "law" "law" (defArgs s_law) (defBody s_law) (defScope s_law) [] [] (ad_law K) fd
theorem Txt.FDyadic {K : PySem.W.Frag} {mg : Str → Option Value} (T : Txt K mg) : FDyadic K := ⟨T.cl_Dyadic, T.na_Dyadic__top, T.na_Dyadic__power⟩
abbrev O_law_digits (P : Program) (w : World) (K : PySem.W.Frag) (mg : Str → Option Value) (base : Heap) : Prop := DefOk P w K mg base CX0 1 "_law_digits" "_law_digits" s_law_digits [] (ad_law_digits K) ["cell", "count"] (sp_law_digits K)
abbrev O_law_pair (P : Program) (w : World) (K : PySem.W.Frag) (mg : Str → Option Value) (base : Heap) : Prop := DefOk P w K mg base CX0 2 "_law_pair" "_law_pair" s_law_pair [] (ad_law_pair K) ["cell", "shape"] (sp_law_pair K)
abbrev O_law_cell (P : Program) (w : World) (K : PySem.W.Frag) (mg : Str → Option Value) (base : Heap) : Prop := DefOk P w K mg base CX0 1 "_law_cell" "_law_cell" s_law_cell [] (ad_law_cell K) ["script", "k"] (sp_law_cell K)
abbrev O_law_plain (P : Program) (w : World) (K : PySem.W.Frag) (mg : Str → Option Value) (base : Heap) : Prop := DefOk P w K mg base CX0 1 "_law_plain" "_law_plain" s_law_plain [] (ad_law_plain K) ["top", "power"] (sp_law_plain K)
abbrev O_is_whole (P : Program) (w : World) (K : PySem.W.Frag) (mg : Str → Option Value) (base : Heap) : Prop := DefOk P w K mg base CX0 1 "is_whole" "is_whole" s_is_whole [] (ad_is_whole K) ["thing", "least", "most"] (sp_is_whole K)
abbrev O_plain (P : Program) (w : World) (K : PySem.W.Frag) (mg : Str → Option Value) (base : Heap) : Prop := DefOk P w K mg base CX0 1 "_plain" "_plain" s_plain [] (ad_plain K) ["top", "power"] (sp_plain K)
abbrev O_Dyadic_d_init (P : Program) (w : World) (K : PySem.W.Frag) (mg : Str → Option Value) (base : Heap) : Prop := DefOk P w K mg base (L2.CX P w) 2 "__init__" "Dyadic.__init__" s_Dyadic_d_init [.int 0] (ad_Dyadic_d_init K) ["self", "top", "power"] (sp_Dyadic_d_init K)
abbrev O_Dyadic_m_age (P : Program) (w : World) (K : PySem.W.Frag) (mg : Str → Option Value) (base : Heap) : Prop := DefOk P w K mg base CX0 1 "age" "Dyadic.age" s_Dyadic_m_age [] (ad_Dyadic_m_age K) ["self"] (sp_Dyadic_m_age K)
abbrev O_law_is_integer (P : Program) (w : World) (K : PySem.W.Frag) (mg : Str → Option Value) (base : Heap) : Prop := DefOk P w K mg base CX0 1 "_law_is_integer" "_law_is_integer" s_law_is_integer [] (ad_law_is_integer K) ["thing"] (sp_law_is_integer K)
abbrev O_law_age (P : Program) (w : World) (K : PySem.W.Frag) (mg : Str → Option Value) (base : Heap) : Prop := DefOk P w K mg base CX0 2 "_law_age" "_law_age" s_law_age [] (ad_law_age K) ["top", "power"] (sp_law_age K)
abbrev O_law_aged (P : Program) (w : World) (K : PySem.W.Frag) (mg : Str → Option Value) (base : Heap) : Prop := DefOk P w K mg base CX0 4 "_law_aged" "_law_aged" s_law_aged [] (ad_law_aged K) ["top", "power"] (sp_law_aged K)
abbrev O_law_steps (P : Program) (w : World) (K : PySem.W.Frag) (mg : Str → Option Value) (base : Heap) : Prop := DefOk P w K mg base CX0 1 "_law_steps" "_law_steps" s_law_steps [] (ad_law_steps K) ["top", "power"] (sp_law_steps K)
abbrev O_law (P : Program) (w : World) (K : PySem.W.Frag) (mg : Str → Option Value) (base : Heap) : Prop := DefOk P w K mg base CX0 5 "law" "law" s_law [] (ad_law K) ["script"] (sp_law K)
theorem ok_law_digits {P : Program} {w : World} {K : PySem.W.Frag} {mg : Str → Option Value} {base : Heap} (T : Txt K mg)  : O_law_digits P w K mg base := by
  obtain ⟨fd, X⟩ := T.d_law_digits
  refine ⟨fd, X, X.ok sc_law_digits (fun vs H Q E h => len_law_digits h) (fun cdv A outer s H vs Q E hr h => ⟨t_law_digits K E, PSs.nox ?_, pure_law_digits vs H Q E h⟩)⟩
  exact (pss_cons (ps_set (i := 2) sc_law_digits.nd rfl (Or.inl rfl) (pe_lst pa_nil))
      (pss_cons (ps_if (pt_cmpR op_ge (pv 0) (pe_op op_pow pe_int pe_int) (nomark _)) (pss_cons (ps_for PassesOwn.never rfl (pi_range1 rfl T.z_range (pa_cons (pv 1) pa_nil)) (pg_name (i := 3) sc_law_digits.nd rfl (Or.inl rfl))
      (pss_cons (ps_expr (pe_bm PySem.F.plainAttrs_list PySem.F.slot_list_append PySem.F.type_list_append mt_append (pv 2) (pa_cons (pe_op op_mod (pe_callTy cr_intI rfl T.z_int (by decide +kernel) (pa_cons (pv 0) pa_nil)) pe_int) pa_nil)))
      (pss_one (ps_set (i := 0) sc_law_digits.nd rfl (Or.inl rfl) (pe_op op_fdiv (pv 0) pe_int)))))
      (pss_one (ps_ret (pv 2)))) pss_nil)
      (pss_cons (ps_set (i := 4) sc_law_digits.nd rfl (Or.inl rfl) (pe_op op_mod (pe_callTy cr_intI rfl T.z_int (by decide +kernel) (pa_cons (pe_op op_add (pe_op op_mul (pv 0) pe_int) pe_int) pa_nil)) pe_int))
      (pss_cons (ps_for PassesOwn.never rfl (pi_range1 rfl T.z_range (pa_cons (pv 1) pa_nil)) (pg_name (i := 3) sc_law_digits.nd rfl (Or.inl rfl))
      (pss_cons (ps_set (i := 4) sc_law_digits.nd rfl (Or.inl rfl) (pe_op op_mod (pe_callTy cr_intI rfl T.z_int (by decide +kernel) (pa_cons (pe_op op_add (pe_op op_add (pe_op op_mul (pv 4) pe_int) (pe_op op_mul pe_int (pv 3))) pe_int) pa_nil)) pe_int))
      (pss_one (ps_expr (pe_bm PySem.F.plainAttrs_list PySem.F.slot_list_append PySem.F.type_list_append mt_append (pv 2) (pa_cons (pe_op op_mod (pe_callTy cr_intI rfl T.z_int (by decide +kernel) (pa_cons (pe_op op_fdiv (pv 4) pe_int) pa_nil)) pe_int) pa_nil))))))
      (pss_one (ps_ret (pv 2)))))))
theorem ok_law_pair {P : Program} {w : World} {K : PySem.W.Frag} {mg : Str → Option Value} {base : Heap} (T : Txt K mg) (D_law_digits : O_law_digits P w K mg base) : O_law_pair P w K mg base := by
  obtain ⟨fd_law_digits, X_law_digits, G_law_digits⟩ := D_law_digits.ex
  have K_law_digits := X_law_digits.kp
  have B_law_digits := X_law_digits.bindsN (ps := ["cell", "count"]) fun _ _ _ _ _ _ us hl => match us, hl with | [_, _], _ => rfl
  have V_law_digits : Vals [] [] := .nil
  obtain ⟨fd, X⟩ := T.d_law_pair
  refine ⟨fd, X, X.ok sc_law_pair (fun vs H Q E h => len_law_pair h) (fun cdv A outer s H vs Q E hr h => ⟨t_law_pair K E, PSs.nox ?_, pure_law_pair vs H Q E h⟩)⟩
  exact (pss_cons (ps_set (i := 2) sc_law_pair.nd rfl (Or.inl rfl) (pe_call G_law_digits (hr.mono (by decide)) rfl T.g__law_digits K_law_digits B_law_digits V_law_digits pass0 (pa_cons (pv 1) (pa_cons pe_int pa_nil))))
      (pss_cons (ps_set (i := 3) sc_law_pair.nd rfl (Or.inl rfl) (pe_op op_mod (pe_callTy cr_intI rfl T.z_int (by decide +kernel) (pa_cons (pe_ix ix_list (pv 2) pe_int (fun _ _ => rfl)) pa_nil)) pe_int))
      (pss_cons (ps_set (i := 4) sc_law_pair.nd rfl (Or.inl rfl) (pe_callB (cr_min2 rfl) rfl T.z_min (by decide +kernel) (pa_cons (pe_op op_pow pe_int pe_int) (pa_cons (pe_op op_shl pe_int (pe_op op_mod (pe_callTy cr_intI rfl T.z_int (by decide +kernel) (pa_cons (pe_ix ix_list (pv 2) pe_int (fun _ _ => rfl)) pa_nil)) pe_int)) pa_nil))))
      (pss_cons (ps_set (i := 5) sc_law_pair.nd rfl (Or.inl rfl) (pe_op op_sub (pe_op op_mod (pe_callTy cr_intI rfl T.z_int (by decide +kernel) (pa_cons (pv 0) pa_nil)) (pe_op op_add (pe_op op_mul pe_int (pv 4)) pe_int)) (pv 4)))
      (Evl.pss_cut (ps_if (pt_cmpR op_eq (pe_op op_mod (pe_callTy cr_intI rfl T.z_int (by decide +kernel) (pa_cons (pe_ix ix_list (pv 2) pe_int (fun _ _ => rfl)) pa_nil)) pe_int) pe_int (nomark _)) (pss_cons (ps_set (i := 6) sc_law_pair.nd rfl (Or.inl rfl) (pe_op op_shl (pe_op op_shr (pe_callB cr_absI rfl T.z_abs (by decide +kernel) (pa_cons (pv 5) pa_nil)) (pe_op op_mod (pe_callTy cr_intI rfl T.z_int (by decide +kernel) (pa_cons (pe_ix ix_list (pv 2) pe_int (fun _ _ => rfl)) pa_nil)) pe_int)) (pe_op op_mod (pe_callTy cr_intI rfl T.z_int (by decide +kernel) (pa_cons (pe_ix ix_list (pv 2) pe_int (fun _ _ => rfl)) pa_nil)) pe_int)))
      (pss_one (ps_set (i := 5) sc_law_pair.nd rfl (Or.inl rfl) (pe_ifExp (pt_cmpR op_gt (pv 5) pe_int (nomark _)) (pv 6) (pe_un un_neg (pv 6)))))) pss_nil)
      (Evl.pss_cut (ps_if (pt_cmpR op_eq (pe_op op_mod (pe_callTy cr_intI rfl T.z_int (by decide +kernel) (pa_cons (pe_ix ix_list (pv 2) pe_int (fun _ _ => rfl)) pa_nil)) pe_int) pe_int (nomark _)) (pss_one (ps_set (i := 5) sc_law_pair.nd rfl (Or.inl rfl) (pe_ix ix_list (pe_lst (pa_cons pe_int (pa_cons pe_int (pa_cons (pe_un un_neg pe_int) (pa_cons (pe_op op_pow pe_int pe_int) (pa_cons (pe_un un_neg (pe_op op_pow pe_int pe_int)) (pa_cons (pe_op op_sub (pe_op op_pow pe_int pe_int) pe_int) (pa_cons (pe_op op_sub pe_int (pe_op op_pow pe_int pe_int)) pa_nil)))))))) (pe_op op_mod (pe_callTy cr_intI rfl T.z_int (by decide +kernel) (pa_cons (pe_ix ix_list (pv 2) pe_int (fun _ _ => rfl)) pa_nil)) pe_int) (fun _ _ => rfl)))) pss_nil)
      (pss_one (ps_ret (pe_tup (pa_cons (pv 5) (pa_cons (pv 3) pa_nil)))))))))))
theorem ok_law_cell {P : Program} {w : World} {K : PySem.W.Frag} {mg : Str → Option Value} {base : Heap} (T : Txt K mg)  : O_law_cell P w K mg base := by
  obtain ⟨fd, X⟩ := T.d_law_cell
  refine ⟨fd, X, X.ok sc_law_cell (fun vs H Q E h => len_law_cell h) (fun cdv A outer s H vs Q E hr h => ⟨t_law_cell K E, PSs.nox ?_, pure_law_cell vs H Q E h⟩)⟩
  exact (pss_cons (ps_if (pt_cmpR op_lt (pv 1) (pe_callB cr_lenQ rfl T.z_len (by decide +kernel) (pa_cons (pv 0) pa_nil)) (nomark _)) (pss_one (ps_ret (pe_ix ix_list (pv 0) (pv 1) (fun _ _ => rfl)))) pss_nil)
      (pss_cons (ps_set (i := 2) sc_law_cell.nd rfl (Or.inl rfl) (pe_op op_add (pe_op op_mul pe_int (pv 1)) pe_int))
      (pss_cons (ps_for PassesOwn.never rfl (pi_list (pv 0)) (pg_name (i := 3) sc_law_cell.nd rfl (Or.inl rfl))
      (pss_one (ps_set (i := 2) sc_law_cell.nd rfl (Or.inl rfl) (pe_op op_mod (pe_callTy cr_intI rfl T.z_int (by decide +kernel) (pa_cons (pe_op op_add (pe_op op_mul (pv 2) pe_int) (pv 3)) pa_nil)) pe_int))))
      (pss_one (ps_ret (pv 2))))))
theorem ok_law_plain {P : Program} {w : World} {K : PySem.W.Frag} {mg : Str → Option Value} {base : Heap} (T : Txt K mg)  : O_law_plain P w K mg base := by
  obtain ⟨fd, X⟩ := T.d_law_plain
  refine ⟨fd, X, X.ok sc_law_plain (fun vs H Q E h => len_law_plain h) (fun cdv A outer s H vs Q E hr h => ⟨t_law_plain K E, PSs.nox ?_, pure_law_plain vs H Q E h⟩)⟩
  exact (pss_cons (ps_for PassesOwn.never rfl (pi_range1 rfl T.z_range (pa_cons pe_int pa_nil)) (pg_name (i := 2) sc_law_plain.nd rfl (Or.inl rfl))
      (pss_one (ps_if (PW.pt (pw_and (pt_cmpR op_gt (pv 1) pe_int (nomark _)) (pw_and1 (pt_cmpR op_eq (pe_op op_mod (pe_callTy cr_intI rfl T.z_int (by decide +kernel) (pa_cons (pv 0) pa_nil)) pe_int) pe_int (nomark _))))) (pss_cons (ps_set (i := 0) sc_law_plain.nd rfl (Or.inl rfl) (pe_op op_fdiv (pv 0) pe_int))
      (pss_one (ps_set (i := 1) sc_law_plain.nd rfl (Or.inl rfl) (pe_op op_sub (pv 1) pe_int)))) pss_nil)))
      (pss_one (ps_ret (pe_tup (pa_cons (pv 0) (pa_cons (pv 1) pa_nil))))))
theorem ok_is_whole {P : Program} {w : World} {K : PySem.W.Frag} {mg : Str → Option Value} {base : Heap} (T : Txt K mg)  : O_is_whole P w K mg base := by
  obtain ⟨fd, X⟩ := T.d_is_whole
  refine ⟨fd, X, X.ok sc_is_whole (fun vs H Q E h => len_is_whole h) (fun cdv A outer s H vs Q E hr h => ⟨t_is_whole K E, PSs.nox ?_, pure_is_whole vs H Q E h⟩)⟩
  exact (pss_one (ps_ret (pe_and (pe_cmpR op_isTyB (pe_callTy call_type1 rfl T.z_type (by decide +kernel) (pa_cons (pv 0) pa_nil)) (pe_bltn rfl T.z_int (by decide +kernel) rfl) (nomark _)) (pe_one (pe_chain op_le op_le (pv 1) (pv 0) (pv 2))))))
theorem ok_plain {P : Program} {w : World} {K : PySem.W.Frag} {mg : Str → Option Value} {base : Heap} (T : Txt K mg)  : O_plain P w K mg base := by
  obtain ⟨fd, X⟩ := T.d_plain
  refine ⟨fd, X, X.ok sc_plain (fun vs H Q E h => len_plain h) (fun cdv A outer s H vs Q E hr h => ⟨t_plain K E, PSs.nox ?_, pure_plain vs H Q E h⟩)⟩
  exact (pss_cons (ps_while PassesOwn.never (PW.pt (pw_and (pt_cmpR op_gt (pv 1) pe_int (nomark _)) (pw_and1 (pt_cmpR op_eq (pe_op op_and (pv 0) pe_int) pe_int (nomark _))))) (pss_cons (ps_set (i := 0) sc_plain.nd rfl (Or.inl rfl) (pe_op op_shr (pv 0) pe_int))
      (pss_one (ps_set (i := 1) sc_plain.nd rfl (Or.inl rfl) (pe_op op_sub (pv 1) pe_int)))))
      (pss_one (ps_ret (pe_tup (pa_cons (pv 0) (pa_cons (pv 1) pa_nil))))))
theorem ok_Dyadic_d_init {P : Program} {w : World} {K : PySem.W.Frag} {mg : Str → Option Value} {base : Heap} (T : Txt K mg) (D_is_whole : O_is_whole P w K mg base) (D_plain : O_plain P w K mg base) : O_Dyadic_d_init P w K mg base := by
  obtain ⟨fd_is_whole, X_is_whole, G_is_whole⟩ := D_is_whole.ex
  have K_is_whole := X_is_whole.kp
  have B_is_whole := X_is_whole.bindsN (ps := ["thing", "least", "most"]) fun _ _ _ _ _ _ us hl => match us, hl with | [_, _, _], _ => rfl
  have V_is_whole : Vals [] [] := .nil
  obtain ⟨fd_plain, X_plain, G_plain⟩ := D_plain.ex
  have K_plain := X_plain.kp
  have B_plain := X_plain.bindsN (ps := ["top", "power"]) fun _ _ _ _ _ _ us hl => match us, hl with | [_, _], _ => rfl
  have V_plain : Vals [] [] := .nil
  obtain ⟨fd, X⟩ := T.d_Dyadic_d_init
  refine ⟨fd, X, X.ok sc_Dyadic_d_init (fun vs H Q E h => len_Dyadic_d_init h) (fun cdv A outer s H vs Q E hr h => ⟨t_Dyadic_d_init K E, ?_, pure_Dyadic_d_init T.FDyadic vs H Q E h⟩)⟩
  exact (pss_cons (ps_if (pt_not (pt_val (pe_call G_is_whole (hr.mono (by decide)) rfl T.g_is_whole K_is_whole B_is_whole V_is_whole pass0 (pa_cons (pv 1) (pa_cons (pe_un un_neg (C8.pe_gc rfl (cst_ok T.c_MOST_TOP))) (pa_cons (C8.pe_gc rfl (cst_ok T.c_MOST_TOP)) pa_nil)))))) (pss_one (ps_raise rfl (takes_of rfl rfl rfl rfl) (pmk_own PySem.F.excBase_ValueError T.x_BadValue.1 T.g_BadValue T.x_BadValue.2.1 (raises_own T.x_BadValue.2.2.1 T.x_BadValue.2.2.2) (by exact rfl)))) pss_nil)
      (pss_cons (ps_if (pt_not (pt_val (pe_call G_is_whole (hr.mono (by decide)) rfl T.g_is_whole K_is_whole B_is_whole V_is_whole pass0 (pa_cons (pv 2) (pa_cons pe_int (pa_cons (C8.pe_gc rfl (cst_ok T.c_MOST_POWER)) pa_nil)))))) (pss_one (ps_raise rfl (takes_of rfl rfl rfl rfl) (pmk_own PySem.F.excBase_ValueError T.x_BadValue.1 T.g_BadValue T.x_BadValue.2.1 (raises_own T.x_BadValue.2.2.1 T.x_BadValue.2.2.2) (by exact rfl)))) pss_nil)
      (pss_one (ps_asg (pe_call G_plain (hr.mono (by decide)) rfl T.g__plain K_plain B_plain V_plain pass0 (pa_cons (pv 1) (pa_cons (pv 2) pa_nil))) (pg_tup rfl (pgs_cons (pg_fld (pv 0)) (pgs_cons (pg_fld (pv 0)) pgs_nil)))))))
theorem ok_Dyadic_m_age {P : Program} {w : World} {K : PySem.W.Frag} {mg : Str → Option Value} {base : Heap} (T : Txt K mg)  : O_Dyadic_m_age P w K mg base := by
  obtain ⟨fd, X⟩ := T.d_Dyadic_m_age
  refine ⟨fd, X, X.ok sc_Dyadic_m_age (fun vs H Q E h => len_Dyadic_m_age h) (fun cdv A outer s H vs Q E hr h => ⟨t_Dyadic_m_age K E, PSs.nox ?_, pure_Dyadic_m_age T.FDyadic vs H Q E h⟩)⟩
  exact (pss_cons (ps_set (i := 1) sc_Dyadic_m_age.nd rfl (Or.inl rfl) (pe_callB cr_absI rfl T.z_abs (by decide +kernel) (pa_cons (pe_fld (pv 0) rfl) pa_nil)))
      (pss_cons (ps_if (pt_cmpR op_eq (pe_fld (pv 0) rfl) pe_int (nomark _)) (pss_one (ps_ret (pv 1))) pss_nil)
      (pss_one (ps_ret (pe_op op_add (pe_op op_add (pe_op op_shr (pv 1) (pe_fld (pv 0) rfl)) (pe_fld (pv 0) rfl)) pe_int)))))
theorem ok_law_is_integer {P : Program} {w : World} {K : PySem.W.Frag} {mg : Str → Option Value} {base : Heap} (T : Txt K mg)  : O_law_is_integer P w K mg base := by
  obtain ⟨fd, X⟩ := T.d_law_is_integer
  refine ⟨fd, X, X.ok sc_law_is_integer (fun vs H Q E h => len_law_is_integer h) (fun cdv A outer s H vs Q E hr h => ⟨t_law_is_integer K E, PSs.nox ?_, pure_law_is_integer vs H Q E h⟩)⟩
  exact (pss_one (ps_ret (pe_and (pe_callB call_isi rfl T.z_isinstance (by decide +kernel) (pa_cons (pv 0) (pa_cons (pe_bltn rfl T.z_int (by decide +kernel) rfl) pa_nil))) (pe_one (pe_not (pe_callB call_isi rfl T.z_isinstance (by decide +kernel) (pa_cons (pv 0) (pa_cons (pe_bltn rfl T.z_bool (by decide +kernel) rfl) pa_nil))))))))
theorem ok_law_age {P : Program} {w : World} {K : PySem.W.Frag} {mg : Str → Option Value} {base : Heap} (T : Txt K mg) (D_law_plain : O_law_plain P w K mg base) : O_law_age P w K mg base := by
  obtain ⟨fd_law_plain, X_law_plain, G_law_plain⟩ := D_law_plain.ex
  have K_law_plain := X_law_plain.kp
  have B_law_plain := X_law_plain.bindsN (ps := ["top", "power"]) fun _ _ _ _ _ _ us hl => match us, hl with | [_, _], _ => rfl
  have V_law_plain : Vals [] [] := .nil
  obtain ⟨fd, X⟩ := T.d_law_age
  refine ⟨fd, X, X.ok sc_law_age (fun vs H Q E h => len_law_age h) (fun cdv A outer s H vs Q E hr h => ⟨t_law_age K E, PSs.nox ?_, pure_law_age vs H Q E h⟩)⟩
  exact (pss_cons (ps_set (i := 2) sc_law_age.nd rfl (Or.inl rfl) (pe_call G_law_plain (hr.mono (by decide)) rfl T.g__law_plain K_law_plain B_law_plain V_law_plain pass0 (pa_cons (pv 0) (pa_cons (pv 1) pa_nil))))
      (pss_cons (ps_if (pt_cmpR op_eq (pe_ix ix_tup (pv 2) pe_int (fun _ _ => rfl)) pe_int (nomark _)) (pss_one (ps_ret (pe_callB cr_absI rfl T.z_abs (by decide +kernel) (pa_cons (pe_ix ix_tup (pv 2) pe_int (fun _ _ => rfl)) pa_nil)))) pss_nil)
      (pss_one (ps_ret (pe_op op_add (pe_op op_add (pe_op op_fdivW (pe_callB cr_absI rfl T.z_abs (by decide +kernel) (pa_cons (pe_ix ix_tup (pv 2) pe_int (fun _ _ => rfl)) pa_nil)) (pe_op op_shl pe_int (pe_ix ix_tup (pv 2) pe_int (fun _ _ => rfl)))) (pe_ix ix_tup (pv 2) pe_int (fun _ _ => rfl))) pe_int)))))
theorem ok_law_aged {P : Program} {w : World} {K : PySem.W.Frag} {mg : Str → Option Value} {base : Heap} (T : Txt K mg) (D_Dyadic_d_init : O_Dyadic_d_init P w K mg base) (D_Dyadic_m_age : O_Dyadic_m_age P w K mg base) (D_law_is_integer : O_law_is_integer P w K mg base) (D_law_age : O_law_age P w K mg base) : O_law_aged P w K mg base := by
  obtain ⟨fd_Dyadic_d_init, X_Dyadic_d_init, G_Dyadic_d_init⟩ := D_Dyadic_d_init.ex
  have K_Dyadic_d_init := X_Dyadic_d_init.kp
  obtain ⟨W_Dyadic_d_init_2, V_Dyadic_d_init_2, B_Dyadic_d_init_2⟩ := X_Dyadic_d_init.binds1 (ps := ["self", "top", "power"]) 2 0 (List.cons_ne_nil _ _) rfl fun _ _ _ _ _ _ _ us its hl hm => match us, its, hl, hm with | [_, _], [_], _, _ => ⟨_, rfl, rfl⟩
  obtain ⟨W_Dyadic_d_init_3, V_Dyadic_d_init_3, B_Dyadic_d_init_3⟩ := X_Dyadic_d_init.binds1 (ps := ["self", "top", "power"]) 3 1 (List.cons_ne_nil _ _) rfl fun _ _ _ _ _ _ _ us its hl hm => match us, its, hl, hm with | [_, _, _], [_], _, _ => ⟨_, rfl, rfl⟩
  obtain ⟨fd_Dyadic_m_age, X_Dyadic_m_age, G_Dyadic_m_age⟩ := D_Dyadic_m_age.ex
  have K_Dyadic_m_age := X_Dyadic_m_age.kp
  have B_Dyadic_m_age := X_Dyadic_m_age.bindsN (ps := ["self"]) fun _ _ _ _ _ _ us hl => match us, hl with | [_], _ => rfl
  have V_Dyadic_m_age : Vals [] [] := .nil
  obtain ⟨fd_law_is_integer, X_law_is_integer, G_law_is_integer⟩ := D_law_is_integer.ex
  have K_law_is_integer := X_law_is_integer.kp
  have B_law_is_integer := X_law_is_integer.bindsN (ps := ["thing"]) fun _ _ _ _ _ _ us hl => match us, hl with | [_], _ => rfl
  have V_law_is_integer : Vals [] [] := .nil
  obtain ⟨fd_law_age, X_law_age, G_law_age⟩ := D_law_age.ex
  have K_law_age := X_law_age.kp
  have B_law_age := X_law_age.bindsN (ps := ["top", "power"]) fun _ _ _ _ _ _ us hl => match us, hl with | [_, _], _ => rfl
  have V_law_age : Vals [] [] := .nil
  obtain ⟨fd, X⟩ := T.d_law_aged
  refine ⟨fd, X, X.ok sc_law_aged (fun vs H Q E h => len_law_aged h) (fun cdv A outer s H vs Q E hr h => ⟨t_law_aged K E, PSs.nox ?_, pure_law_aged vs H Q E h⟩)⟩
  exact (pss_cons (ps_set (i := 2) sc_law_aged.nd rfl (Or.inl rfl) (pe_meth0 (pe_make T.mk_Dyadic G_Dyadic_d_init (hr.mono (by decide)) rfl T.g_Dyadic B_Dyadic_d_init_3 V_Dyadic_d_init_3 passL (pa_cons (pv 0) (pa_cons (pv 1) pa_nil))) T.cl_Dyadic T.mt_Dyadic_age G_Dyadic_m_age (hr.mono (by decide)) B_Dyadic_m_age .nil pass0))
      (pss_one (ps_ret (pe_and (pe_call G_law_is_integer (hr.mono (by decide)) rfl T.g__law_is_integer K_law_is_integer B_law_is_integer V_law_is_integer pass0 (pa_cons (pv 2) pa_nil)) (pe_one (pe_cmpR op_eq (pv 2) (pe_call G_law_age (hr.mono (by decide)) rfl T.g__law_age K_law_age B_law_age V_law_age pass0 (pa_cons (pv 0) (pa_cons (pv 1) pa_nil))) (nomark _)))))))
theorem ok_law_steps {P : Program} {w : World} {K : PySem.W.Frag} {mg : Str → Option Value} {base : Heap} (T : Txt K mg)  : O_law_steps P w K mg base := by
  obtain ⟨fd, X⟩ := T.d_law_steps
  refine ⟨fd, X, X.ok sc_law_steps (fun vs H Q E h => len_law_steps h) (fun cdv A outer s H vs Q E hr h => ⟨t_law_steps K E, PSs.nox ?_, pure_law_steps vs H Q E h⟩)⟩
  exact (pss_cons (ps_set (i := 2) sc_law_steps.nd rfl (Or.inl rfl) (pe_op op_shl (pv 0) (pe_op op_sub pe_int (pv 1))))
      (pss_cons (ps_set (i := 3) sc_law_steps.nd rfl (Or.inl rfl) (pe_op op_shl pe_int pe_int))
      (pss_cons (ps_set (i := 4) sc_law_steps.nd rfl (Or.inl rfl) pe_int)
      (pss_cons (ps_set (i := 5) sc_law_steps.nd rfl (Or.inl rfl) pe_non)
      (pss_cons (ps_set (i := 6) sc_law_steps.nd rfl (Or.inl rfl) pe_non)
      (pss_cons (ps_for PassesOwn.never rfl (pi_range1 rfl T.z_range (pa_cons pe_int pa_nil)) (pg_name (i := 7) sc_law_steps.nd rfl (Or.inl rfl))
      (pss_cons (ps_if (pt_cmpR op_eq (pv 4) (pv 2) (nomark _)) (pss_one (ps_ret (pv 7))) pss_nil)
      (pss_one (ps_if (pt_cmpR op_lt (pv 4) (pv 2) (nomark _)) (pss_cons (ps_set (i := 5) sc_law_steps.nd rfl (Or.inl rfl) (pv 4))
      (pss_one (ps_set (i := 4) sc_law_steps.nd rfl (Or.inl rfl) (pe_ifExp (pt_cmpR op_isN1 (pv 6) pe_non (nomark _)) (pe_op op_add (pv 4) (pv 3)) (pe_op op_fdiv (pe_op op_add (pv 4) (pv 6)) pe_int))))) (pss_cons (ps_set (i := 6) sc_law_steps.nd rfl (Or.inl rfl) (pv 4))
      (pss_one (ps_set (i := 4) sc_law_steps.nd rfl (Or.inl rfl) (pe_ifExp (pt_cmpR op_isN1 (pv 5) pe_non (nomark _)) (pe_op op_sub (pv 4) (pv 3)) (pe_op op_fdiv (pe_op op_add (pv 4) (pv 5)) pe_int)))))))))
      (pss_one (ps_ret (pe_un un_neg pe_int)))))))))
theorem ok_law {P : Program} {w : World} {K : PySem.W.Frag} {mg : Str → Option Value} {base : Heap} (T : Txt K mg) (D_law_pair : O_law_pair P w K mg base) (D_law_cell : O_law_cell P w K mg base) (D_law_digits : O_law_digits P w K mg base) (D_law_plain : O_law_plain P w K mg base) (D_Dyadic_d_init : O_Dyadic_d_init P w K mg base) (D_Dyadic_m_age : O_Dyadic_m_age P w K mg base) (D_law_is_integer : O_law_is_integer P w K mg base) (D_law_age : O_law_age P w K mg base) (D_law_aged : O_law_aged P w K mg base) (D_law_steps : O_law_steps P w K mg base) : O_law P w K mg base := by
  obtain ⟨fd_law_pair, X_law_pair, G_law_pair⟩ := D_law_pair.ex
  have K_law_pair := X_law_pair.kp
  have B_law_pair := X_law_pair.bindsN (ps := ["cell", "shape"]) fun _ _ _ _ _ _ us hl => match us, hl with | [_, _], _ => rfl
  have V_law_pair : Vals [] [] := .nil
  obtain ⟨fd_law_cell, X_law_cell, G_law_cell⟩ := D_law_cell.ex
  have K_law_cell := X_law_cell.kp
  have B_law_cell := X_law_cell.bindsN (ps := ["script", "k"]) fun _ _ _ _ _ _ us hl => match us, hl with | [_, _], _ => rfl
  have V_law_cell : Vals [] [] := .nil
  obtain ⟨fd_law_digits, X_law_digits, G_law_digits⟩ := D_law_digits.ex
  have K_law_digits := X_law_digits.kp
  have B_law_digits := X_law_digits.bindsN (ps := ["cell", "count"]) fun _ _ _ _ _ _ us hl => match us, hl with | [_, _], _ => rfl
  have V_law_digits : Vals [] [] := .nil
  obtain ⟨fd_law_plain, X_law_plain, G_law_plain⟩ := D_law_plain.ex
  have K_law_plain := X_law_plain.kp
  have B_law_plain := X_law_plain.bindsN (ps := ["top", "power"]) fun _ _ _ _ _ _ us hl => match us, hl with | [_, _], _ => rfl
  have V_law_plain : Vals [] [] := .nil
  obtain ⟨fd_Dyadic_d_init, X_Dyadic_d_init, G_Dyadic_d_init⟩ := D_Dyadic_d_init.ex
  have K_Dyadic_d_init := X_Dyadic_d_init.kp
  obtain ⟨W_Dyadic_d_init_2, V_Dyadic_d_init_2, B_Dyadic_d_init_2⟩ := X_Dyadic_d_init.binds1 (ps := ["self", "top", "power"]) 2 0 (List.cons_ne_nil _ _) rfl fun _ _ _ _ _ _ _ us its hl hm => match us, its, hl, hm with | [_, _], [_], _, _ => ⟨_, rfl, rfl⟩
  obtain ⟨W_Dyadic_d_init_3, V_Dyadic_d_init_3, B_Dyadic_d_init_3⟩ := X_Dyadic_d_init.binds1 (ps := ["self", "top", "power"]) 3 1 (List.cons_ne_nil _ _) rfl fun _ _ _ _ _ _ _ us its hl hm => match us, its, hl, hm with | [_, _, _], [_], _, _ => ⟨_, rfl, rfl⟩
  obtain ⟨fd_Dyadic_m_age, X_Dyadic_m_age, G_Dyadic_m_age⟩ := D_Dyadic_m_age.ex
  have K_Dyadic_m_age := X_Dyadic_m_age.kp
  have B_Dyadic_m_age := X_Dyadic_m_age.bindsN (ps := ["self"]) fun _ _ _ _ _ _ us hl => match us, hl with | [_], _ => rfl
  have V_Dyadic_m_age : Vals [] [] := .nil
  obtain ⟨fd_law_is_integer, X_law_is_integer, G_law_is_integer⟩ := D_law_is_integer.ex
  have K_law_is_integer := X_law_is_integer.kp
  have B_law_is_integer := X_law_is_integer.bindsN (ps := ["thing"]) fun _ _ _ _ _ _ us hl => match us, hl with | [_], _ => rfl
  have V_law_is_integer : Vals [] [] := .nil
  obtain ⟨fd_law_age, X_law_age, G_law_age⟩ := D_law_age.ex
  have K_law_age := X_law_age.kp
  have B_law_age := X_law_age.bindsN (ps := ["top", "power"]) fun _ _ _ _ _ _ us hl => match us, hl with | [_, _], _ => rfl
  have V_law_age : Vals [] [] := .nil
  obtain ⟨fd_law_aged, X_law_aged, G_law_aged⟩ := D_law_aged.ex
  have K_law_aged := X_law_aged.kp
  have B_law_aged := X_law_aged.bindsN (ps := ["top", "power"]) fun _ _ _ _ _ _ us hl => match us, hl with | [_, _], _ => rfl
  have V_law_aged : Vals [] [] := .nil
  obtain ⟨fd_law_steps, X_law_steps, G_law_steps⟩ := D_law_steps.ex
  have K_law_steps := X_law_steps.kp
  have B_law_steps := X_law_steps.bindsN (ps := ["top", "power"]) fun _ _ _ _ _ _ us hl => match us, hl with | [_, _], _ => rfl
  have V_law_steps : Vals [] [] := .nil
  obtain ⟨fd, X⟩ := T.d_law
  refine ⟨fd, X, X.ok sc_law (fun vs H Q E h => len_law h) (fun cdv A outer s H vs Q E hr h => ⟨t_law K E, PSs.nox ?_, pure_law vs H Q E h⟩)⟩
  exact (pss_cons (ps_set (i := 1) sc_law.nd rfl (Or.inl rfl) (pe_call G_law_pair (hr.mono (by decide)) rfl T.g__law_pair K_law_pair B_law_pair V_law_pair pass0 (pa_cons (pe_call G_law_cell (hr.mono (by decide)) rfl T.g__law_cell K_law_cell B_law_cell V_law_cell pass0 (pa_cons (pv 0) (pa_cons pe_int pa_nil))) (pa_cons (pe_call G_law_cell (hr.mono (by decide)) rfl T.g__law_cell K_law_cell B_law_cell V_law_cell pass0 (pa_cons (pv 0) (pa_cons pe_int pa_nil))) pa_nil))))
      (Evl.pss_cut (ps_if (pt_cmpR op_eq (pe_op op_mod (pe_ix ix_list (pe_call G_law_digits (hr.mono (by decide)) rfl T.g__law_digits K_law_digits B_law_digits V_law_digits pass0 (pa_cons (pe_call G_law_cell (hr.mono (by decide)) rfl T.g__law_cell K_law_cell B_law_cell V_law_cell pass0 (pa_cons (pv 0) (pa_cons pe_int pa_nil))) (pa_cons pe_int pa_nil))) pe_int (fun _ _ => rfl)) pe_int) pe_int (nomark _)) (pss_cons (ps_set (i := 2) sc_law.nd rfl (Or.inl rfl) (pe_callB (cr_min2 rfl) rfl T.z_min (by decide +kernel) (pa_cons (pe_op op_pow pe_int pe_int) (pa_cons (pe_op op_shl pe_int (pe_ix ix_tup (pv 1) pe_int (fun _ _ => rfl))) pa_nil))))
      (pss_one (ps_set (i := 1) sc_law.nd rfl (Or.inl rfl) (pe_tup (pa_cons (pe_op op_sub (pe_op op_mod (pe_callTy cr_intI rfl T.z_int (by decide +kernel) (pa_cons (pe_ix ix_tup (pv 1) pe_int (fun _ _ => rfl)) pa_nil)) (pe_op op_add (pe_op op_mul pe_int (pv 2)) pe_int)) (pv 2)) (pa_cons (pe_ix ix_tup (pv 1) pe_int (fun _ _ => rfl)) pa_nil)))))) pss_nil)
      (pss_cons (ps_set (i := 3) sc_law.nd rfl (Or.inl rfl) (pe_call G_law_plain (hr.mono (by decide)) rfl T.g__law_plain K_law_plain B_law_plain V_law_plain pass0 (pa_cons (pe_ix ix_tup (pv 1) pe_int (fun _ _ => rfl)) (pa_cons (pe_ix ix_tup (pv 1) pe_int (fun _ _ => rfl)) pa_nil))))
      (pss_cons (ps_set (i := 4) sc_law.nd rfl (Or.inl rfl) (pe_make T.mk_Dyadic G_Dyadic_d_init (hr.mono (by decide)) rfl T.g_Dyadic B_Dyadic_d_init_3 V_Dyadic_d_init_3 passL (pa_cons (pe_ix ix_tup (pv 1) pe_int (fun _ _ => rfl)) (pa_cons (pe_ix ix_tup (pv 1) pe_int (fun _ _ => rfl)) pa_nil))))
      (pss_cons (ps_set (i := 5) sc_law.nd rfl (Or.inl rfl) (pe_meth0 (pv 4) T.cl_Dyadic T.mt_Dyadic_age G_Dyadic_m_age (hr.mono (by decide)) B_Dyadic_m_age .nil pass0))
      (pss_cons (ps_if (PW.pt (pw_or (pt_not (pt_val (pe_call G_law_is_integer (hr.mono (by decide)) rfl T.g__law_is_integer K_law_is_integer B_law_is_integer V_law_is_integer pass0 (pa_cons (pv 5) pa_nil)))) (pw_or1 (pt_cmpR op_ne (pv 5) (pe_call G_law_age (hr.mono (by decide)) rfl T.g__law_age K_law_age B_law_age V_law_age pass0 (pa_cons (pe_ix ix_tup (pv 3) pe_int (fun _ _ => rfl)) (pa_cons (pe_ix ix_tup (pv 3) pe_int (fun _ _ => rfl)) pa_nil))) (nomark _))))) (pss_one (ps_ret pe_bl)) pss_nil)
      (pss_cons (ps_if (PW.pt (pw_or (pt_not (pt_val (pe_call G_law_aged (hr.mono (by decide)) rfl T.g__law_aged K_law_aged B_law_aged V_law_aged pass0 (pa_cons (pe_un un_neg (pe_ix ix_tup (pv 3) pe_int (fun _ _ => rfl))) (pa_cons (pe_ix ix_tup (pv 3) pe_int (fun _ _ => rfl)) pa_nil))))) (pw_or1 (pt_not (pt_val (pe_call G_law_aged (hr.mono (by decide)) rfl T.g__law_aged K_law_aged B_law_aged V_law_aged pass0 (pa_cons (pe_ix ix_tup (pv 1) pe_int (fun _ _ => rfl)) (pa_cons (pe_ix ix_tup (pv 1) pe_int (fun _ _ => rfl)) pa_nil)))))))) (pss_one (ps_ret pe_bl)) pss_nil)
      (pss_cons (ps_if (PW.pt (pw_and (pt_cmpR op_le (pe_callB cr_absI rfl T.z_abs (by decide +kernel) (pa_cons (pe_ix ix_tup (pv 3) pe_int (fun _ _ => rfl)) pa_nil)) (pe_op op_shl pe_int (pe_ix ix_tup (pv 3) pe_int (fun _ _ => rfl))) (nomark _)) (pw_and1 (pt_cmpR op_ne (pv 5) (pe_call G_law_steps (hr.mono (by decide)) rfl T.g__law_steps K_law_steps B_law_steps V_law_steps pass0 (pa_cons (pe_ix ix_tup (pv 3) pe_int (fun _ _ => rfl)) (pa_cons (pe_ix ix_tup (pv 3) pe_int (fun _ _ => rfl)) pa_nil))) (nomark _))))) (pss_one (ps_ret pe_bl)) pss_nil)
      (pss_cons (ps_if (pt_cmpR op_gt (pe_ix ix_tup (pv 3) pe_int (fun _ _ => rfl)) pe_int (nomark _)) (pss_cons (ps_if (PW.pt (pw_or (pt_not (pt_val (pe_call G_law_aged (hr.mono (by decide)) rfl T.g__law_aged K_law_aged B_law_aged V_law_aged pass0 (pa_cons (pe_op op_sub (pe_ix ix_tup (pv 3) pe_int (fun _ _ => rfl)) pe_int) (pa_cons (pe_ix ix_tup (pv 3) pe_int (fun _ _ => rfl)) pa_nil))))) (pw_or1 (pt_not (pt_val (pe_call G_law_aged (hr.mono (by decide)) rfl T.g__law_aged K_law_aged B_law_aged V_law_aged pass0 (pa_cons (pe_op op_add (pe_ix ix_tup (pv 3) pe_int (fun _ _ => rfl)) pe_int) (pa_cons (pe_ix ix_tup (pv 3) pe_int (fun _ _ => rfl)) pa_nil)))))))) (pss_one (ps_ret pe_bl)) pss_nil)
      (pss_one (ps_ret (pe_cmpR op_eq (pv 5) (pe_op op_add pe_int (pe_callB (cr_max2 rfl) rfl T.z_max (by decide +kernel) (pa_cons (pe_meth0 (pe_make T.mk_Dyadic G_Dyadic_d_init (hr.mono (by decide)) rfl T.g_Dyadic B_Dyadic_d_init_3 V_Dyadic_d_init_3 passL (pa_cons (pe_op op_sub (pe_ix ix_tup (pv 3) pe_int (fun _ _ => rfl)) pe_int) (pa_cons (pe_ix ix_tup (pv 3) pe_int (fun _ _ => rfl)) pa_nil))) T.cl_Dyadic T.mt_Dyadic_age G_Dyadic_m_age (hr.mono (by decide)) B_Dyadic_m_age .nil pass0) (pa_cons (pe_meth0 (pe_make T.mk_Dyadic G_Dyadic_d_init (hr.mono (by decide)) rfl T.g_Dyadic B_Dyadic_d_init_3 V_Dyadic_d_init_3 passL (pa_cons (pe_op op_add (pe_ix ix_tup (pv 3) pe_int (fun _ _ => rfl)) pe_int) (pa_cons (pe_ix ix_tup (pv 3) pe_int (fun _ _ => rfl)) pa_nil))) T.cl_Dyadic T.mt_Dyadic_age G_Dyadic_m_age (hr.mono (by decide)) B_Dyadic_m_age .nil pass0) pa_nil)))) (nomark _))))) pss_nil)
      (pss_cons (ps_if (pt_cmpR op_eq (pe_ix ix_tup (pv 3) pe_int (fun _ _ => rfl)) pe_int (nomark _)) (pss_one (ps_ret (pe_cmpR op_eq (pv 5) pe_int (nomark _)))) pss_nil)
      (pss_one (ps_ret (pe_and (pe_cmpR op_eq (pv 5) (pe_op op_add pe_int (pe_meth0 (pe_make T.mk_Dyadic G_Dyadic_d_init (hr.mono (by decide)) rfl T.g_Dyadic B_Dyadic_d_init_2 V_Dyadic_d_init_2 passL (pa_cons (pe_op op_sub (pe_callB cr_absI rfl T.z_abs (by decide +kernel) (pa_cons (pe_ix ix_tup (pv 3) pe_int (fun _ _ => rfl)) pa_nil)) pe_int) pa_nil)) T.cl_Dyadic T.mt_Dyadic_age G_Dyadic_m_age (hr.mono (by decide)) B_Dyadic_m_age .nil pass0)) (nomark _)) (pe_one (pe_cmpR op_eq (pe_meth0 (pv 4) T.cl_Dyadic T.mt_Dyadic_age G_Dyadic_m_age (hr.mono (by decide)) B_Dyadic_m_age .nil pass0) (pv 5) (nomark _))))))))))))))))
theorem all_ok {P : Program} {w : World} {K : PySem.W.Frag} {mg : Str → Option Value} {base : Heap} (T : Txt K mg) : O_law P w K mg base := by
  have h_law_digits : O_law_digits P w K mg base := ok_law_digits T 
  have h_law_pair : O_law_pair P w K mg base := ok_law_pair T h_law_digits
  have h_law_cell : O_law_cell P w K mg base := ok_law_cell T 
  have h_law_plain : O_law_plain P w K mg base := ok_law_plain T 
  have h_is_whole : O_is_whole P w K mg base := ok_is_whole T 
  have h_plain : O_plain P w K mg base := ok_plain T 
  have h_Dyadic_d_init : O_Dyadic_d_init P w K mg base := ok_Dyadic_d_init T h_is_whole h_plain
  have h_Dyadic_m_age : O_Dyadic_m_age P w K mg base := ok_Dyadic_m_age T 
  have h_law_is_integer : O_law_is_integer P w K mg base := ok_law_is_integer T 
  have h_law_age : O_law_age P w K mg base := ok_law_age T h_law_plain
  have h_law_aged : O_law_aged P w K mg base := ok_law_aged T h_Dyadic_d_init h_Dyadic_m_age h_law_is_integer h_law_age
  have h_law_steps : O_law_steps P w K mg base := ok_law_steps T 
  have h_law : O_law P w K mg base := ok_law T h_law_pair h_law_cell h_law_digits h_law_plain h_Dyadic_d_init h_Dyadic_m_age h_law_is_integer h_law_age h_law_aged h_law_steps
  exact h_law
def fs : List (PySem.W.Frag → Bool) := [fun K => (He.Fa.glo "BadValue").ok K,
  fun K => (He.Fa.glo "Dyadic").ok K,
  fun K => (He.Fa.glo "_law_age").ok K,
  fun K => (He.Fa.glo "_law_aged").ok K,
  fun K => (He.Fa.glo "_law_cell").ok K,
  fun K => (He.Fa.glo "_law_digits").ok K,
  fun K => (He.Fa.glo "_law_is_integer").ok K,
  fun K => (He.Fa.glo "_law_pair").ok K,
  fun K => (He.Fa.glo "_law_plain").ok K,
  fun K => (He.Fa.glo "_law_steps").ok K,
  fun K => (He.Fa.glo "_plain").ok K,
  fun K => (He.Fa.glo "is_whole").ok K,
  fun K => (He.Fa.glo "law").ok K,
  fun K => (He.Fa.free "abs").ok K,
  fun K => (He.Fa.free "bool").ok K,
  fun K => (He.Fa.free "int").ok K,
  fun K => (He.Fa.free "isinstance").ok K,
  fun K => (He.Fa.free "len").ok K,
  fun K => (He.Fa.free "max").ok K,
  fun K => (He.Fa.free "min").ok K,
  fun K => (He.Fa.free "range").ok K,
  fun K => (He.Fa.free "type").ok K,
  fun K => (He.Fa.int "MOST_POWER" (40)).ok K,
  fun K => (He.Fa.int "MOST_TOP" (1000000000000)).ok K,
  fun K => (He.Fa.cls "Dyadic").ok K,
  fun K => (He.Fa.exc "BadValue").ok K,
  fun K => (He.Fa.meth "Dyadic" "age").ok K,
  fun K => (He.Fa.mkr "Dyadic").ok K,
  fun K => (He.Fa.noat "Dyadic" "_power").ok K,
  fun K => (He.Fa.noat "Dyadic" "_top").ok K]
def fn : List He5.DefA := [{ at_ := fun K => ad_law_digits K, name := "_law_digits", qual := "_law_digits", params := defArgs s_law_digits, body := defBody s_law_digits, scope := defScope s_law_digits, dfl := [] },
  { at_ := fun K => ad_law_pair K, name := "_law_pair", qual := "_law_pair", params := defArgs s_law_pair, body := defBody s_law_pair, scope := defScope s_law_pair, dfl := [] },
  { at_ := fun K => ad_law_cell K, name := "_law_cell", qual := "_law_cell", params := defArgs s_law_cell, body := defBody s_law_cell, scope := defScope s_law_cell, dfl := [] },
  { at_ := fun K => ad_law_plain K, name := "_law_plain", qual := "_law_plain", params := defArgs s_law_plain, body := defBody s_law_plain, scope := defScope s_law_plain, dfl := [] },
  { at_ := fun K => ad_is_whole K, name := "is_whole", qual := "is_whole", params := defArgs s_is_whole, body := defBody s_is_whole, scope := defScope s_is_whole, dfl := [] },
  { at_ := fun K => ad_plain K, name := "_plain", qual := "_plain", params := defArgs s_plain, body := defBody s_plain, scope := defScope s_plain, dfl := [] },
  { at_ := fun K => ad_Dyadic_d_init K, name := "__init__", qual := "Dyadic.__init__", params := defArgs s_Dyadic_d_init, body := defBody s_Dyadic_d_init, scope := defScope s_Dyadic_d_init, dfl := [.int 0] },
  { at_ := fun K => ad_Dyadic_m_age K, name := "age", qual := "Dyadic.age", params := defArgs s_Dyadic_m_age, body := defBody s_Dyadic_m_age, scope := defScope s_Dyadic_m_age, dfl := [] },
  { at_ := fun K => ad_law_is_integer K, name := "_law_is_integer", qual := "_law_is_integer", params := defArgs s_law_is_integer, body := defBody s_law_is_integer, scope := defScope s_law_is_integer, dfl := [] },
  { at_ := fun K => ad_law_age K, name := "_law_age", qual := "_law_age", params := defArgs s_law_age, body := defBody s_law_age, scope := defScope s_law_age, dfl := [] },
  { at_ := fun K => ad_law_aged K, name := "_law_aged", qual := "_law_aged", params := defArgs s_law_aged, body := defBody s_law_aged, scope := defScope s_law_aged, dfl := [] },
  { at_ := fun K => ad_law_steps K, name := "_law_steps", qual := "_law_steps", params := defArgs s_law_steps, body := defBody s_law_steps, scope := defScope s_law_steps, dfl := [] },
  { at_ := fun K => ad_law K, name := "law", qual := "law", params := defArgs s_law, body := defBody s_law, scope := defScope s_law, dfl := [] }]
theorem txt_of {K : PySem.W.Frag} {h : Heap} {mg : Str → Option Value} (X : K.In h) (G : h.Ns mainGlobals mg) (c : SaysM fs fn K) : Txt K mg where
  g_BadValue := He.glo_ok X G (c.fact 0 rfl)
  g_Dyadic := He.glo_ok X G (c.fact 1 rfl)
  g__law_age := He.glo_ok X G (c.fact 2 rfl)
  g__law_aged := He.glo_ok X G (c.fact 3 rfl)
  g__law_cell := He.glo_ok X G (c.fact 4 rfl)
  g__law_digits := He.glo_ok X G (c.fact 5 rfl)
  g__law_is_integer := He.glo_ok X G (c.fact 6 rfl)
  g__law_pair := He.glo_ok X G (c.fact 7 rfl)
  g__law_plain := He.glo_ok X G (c.fact 8 rfl)
  g__law_steps := He.glo_ok X G (c.fact 9 rfl)
  g__plain := He.glo_ok X G (c.fact 10 rfl)
  g_is_whole := He.glo_ok X G (c.fact 11 rfl)
  g_law := He.glo_ok X G (c.fact 12 rfl)
  z_abs := He.free_ok X G (c.fact 13 rfl)
  z_bool := He.free_ok X G (c.fact 14 rfl)
  z_int := He.free_ok X G (c.fact 15 rfl)
  z_isinstance := He.free_ok X G (c.fact 16 rfl)
  z_len := He.free_ok X G (c.fact 17 rfl)
  z_max := He.free_ok X G (c.fact 18 rfl)
  z_min := He.free_ok X G (c.fact 19 rfl)
  z_range := He.free_ok X G (c.fact 20 rfl)
  z_type := He.free_ok X G (c.fact 21 rfl)
  c_MOST_POWER := He.int_ok X G (c.fact 22 rfl)
  c_MOST_TOP := He.int_ok X G (c.fact 23 rfl)
  cl_Dyadic := He.cls_ok (c.fact 24 rfl)
  x_BadValue := He.exc_ok (c.fact 25 rfl)
  mt_Dyadic_age := He.meth_ok (c.fact 26 rfl)
  mk_Dyadic := He.mkr_ok (c.fact 27 rfl)
  na_Dyadic__power := He.noat_ok (c.fact 28 rfl)
  na_Dyadic__top := He.noat_ok (c.fact 29 rfl)
  d_law_digits := c.dfn 0 rfl
  d_law_pair := c.dfn 1 rfl
  d_law_cell := c.dfn 2 rfl
  d_law_plain := c.dfn 3 rfl
  d_is_whole := c.dfn 4 rfl
  d_plain := c.dfn 5 rfl
  d_Dyadic_d_init := c.dfn 6 rfl
  d_Dyadic_m_age := c.dfn 7 rfl
  d_law_is_integer := c.dfn 8 rfl
  d_law_age := c.dfn 9 rfl
  d_law_aged := c.dfn 10 rfl
  d_law_steps := c.dfn 11 rfl
  d_law := c.dfn 12 rfl
def loose : List PySem.Str := (["_wall", "PlayError", "BadValue", "is_whole", "MOST_TOP", "MOST_POWER", "Dyadic", "_plain", "exact", "_law_cell", "_law_digits", "_law_is_integer", "_law_plain", "_law_pair", "_law_age", "_law_steps", "_law_aged"] : List PySem.Str)
abbrev R : PySem.W.OpenRow := PySem.W.OpenLaw.row PySem.Challenge.rw_sumsplay_k06_age
abbrev hk : PySem.W.Hook := hookM 6 fs fn
def ob (s : PySem.W.SharedT) : He.AlD := obsMG 6 fs fn (HandSHeadRun.getT s)
theorem ob_eq (s : PySem.W.SharedT) : ob s = hk.obs s.abs := obsMG_eq (HandSHeadRun.getT_eq s)
theorem run (w : World) : HandSHeadRun.RunEq R (PySem.W.view R.prog [21]) hk ob 20000 loose w := by
  intro os
  kernel_rfl
theorem facts {P : Program} {w : World} {K : PySem.W.Frag} {h : Heap} {mg : Str → Option Value} {f : Addr} (X : K.In h) (G : h.Ns mainGlobals mg) (hfa : mg ("law" : Str) = some (.ref f)) (c : SaysM fs fn K) (hg : (He.Fa.glo "law").ok K = true) :
    ∃ fd : FuncData, (∀ (s : Shared) (v : Value), BindsTo s fd ⟨[v], []⟩ [("script", v)]) ∧ ∀ base : Heap, K.In base → base.Ns mainGlobals mg → FnOk P w K mg base CX0 5 f fd ["script"] (sp_law K) := by
  have T := txt_of X G c
  obtain ⟨fd, F⟩ := T.d_law
  have e := hfa.symm.trans (He.glo_ok X G hg)
  cases e
  have b := FunD.bindsA (ps := ["script"]) F fun _ _ _ _ _ _ us hl => match us, hl with | [_], _ => rfl
  refine ⟨fd, fun s v => b s [v] rfl, fun base _ _ => ?_⟩
  obtain ⟨fd2, F2, G2⟩ := (all_ok (P := P) (w := w) (base := base) T).ex
  have e2 : fd2 = fd := fd_same F2 F
  rw [← e2]; exact G2
end Mine
open PySem PySem.W PySem.Calls PyProof.Rows
set_option maxRecDepth 100000 in
set_option maxHeartbeats 0 in
theorem PySem.Challenge.cw_sumsplay_k06_age_holds : PySem.Challenge.rw_sumsplay_k06_age.Holds := by
  w_on; o_law
  refine HandSHeadRun.head_any (r := OpenLaw.row PySem.Challenge.rw_sumsplay_k06_age) (q := view (OpenLaw.row PySem.Challenge.rw_sumsplay_k06_age).prog [21]) (H := Mine.hk) (ob := Mine.ob) (M := 20000) (loose := Mine.loose) (d := HandSHeadRun.topDef (OpenLaw.row PySem.Challenge.rw_sumsplay_k06_age).prog 21) (kwd := []) Mine.ob_eq
    (by kernel_rfl) (fun s => by kernel_rfl) Mine.run (by kernel_rfl) (by kernel_rfl) (by kernel_rfl) (by rfl) (by first | assumption | decide +kernel) (by decide +kernel) ⟨rfl, rfl, rfl, rfl, rfl, by decide +kernel⟩ ?hw ?hc
  case hw => w_witness2
  case hc =>
    refine L2.walk_ofE (l := PySem.Challenge.rw_sumsplay_k06_age) (n := 63) (k := 5) (x := "script") (CX := L2.CX0) rfl (by decide) (by kernel_rfl) ⟨rfl, by decide, by decide⟩ ?F (fun _ _ _ _ z => z)
    intro w mg fa h Y G hmg0
    obtain ⟨K, KX, c⟩ := Y
    have hmg : mg ("law" : PySem.Str) = some (.ref fa) := by
      have e : (HandSHeadRun.topDef (OpenLaw.row PySem.Challenge.rw_sumsplay_k06_age).prog 21).name = ("law" : PySem.Str) := by kernel_rfl
      rw [← e]
      exact hmg0
    obtain ⟨fd, hb, hF⟩ := Mine.facts (P := (PySem.Challenge.rw_sumsplay_k06_age).prog) (w := w) KX G hmg c (c.fact 12 rfl)
    exact ⟨K, fd, Mine.sp_law K, KX, hb, fun H a ns hl _ hS => ⟨⟨a, ns, rfl, hS⟩, fun v H' e => e⟩, hF⟩
