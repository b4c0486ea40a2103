import PyProof.Rows.All
import Wide.All
import OpenK.AllK
import Wide.FinOn
import HandS.ForMost
import HandS.ForExc
import HandS.Defaults
import HandS.MakeKw
import HandS.MakeKwOnly
import HandS.IsInst
import HandS.Codes
import HandS.Property
import HandS.Evl
import HandS.Steps
import HandS.More
import HandS.WideBits
import HandS.Wide
import HandS.FStr
import HandS.HeadEnd
import HandS.HeadHook2
import HandS.HeadHook4
import HandS.HeadNt
import HandS.Head0
import HandS.Head1
import HandS.Head2
import HandS.ExcIs
import KE.KOpsOwn
import KE.BitLaws
import HandS.Text
import HandS.StrMore
import HandS.ClsMeth
import PySem.Challenge.RW_sumsplay_k04_texts_read_back
set_option Elab.async false
set_option linter.all false
set_option maxRecDepth 100000
set_option maxHeartbeats 4000000
namespace Mine
open PySem PySem.Spec PyProof.Rows L2
/-! a target o.f -/
section
variable {X : Cx} {o : Expr} {f : Str} {pos : Pos} {ta : TE}
def gFld (K : PySem.W.Frag) (ta : TE) (f : Str) : TG := fun v σ H Q => ta σ H fun x H1 =>
  ∃ a C dx fs, x = V.ref a ∧ H1 a = some (HO.ins C dx fs) ∧ Cls K C ∧ NoAttr K C f ∧ fs.length < 1000 ∧ Q σ (upd H1 a (HO.ins C dx (putF f v fs)))
theorem pg_fld (ho : PE X o ta) : PG X (.Attribute o f pos) (gFld X.K ta f) := by
  constructor
  intro pins s σ H v u Q I rv hw
  rw [assign_Attribute]
  apply wpAny_bind
  apply wpAny_holding
  refine thn (ho.run pins s σ H _ I hw) ?_
  rintro ov s1 ⟨x, H1, I1, rx, a, C, dx, fs, rfl, ea, hc, hn, hl, q⟩
  cases (show ov = Value.ref a from rx)
  apply wpAny_bind
  apply wpAny_standAt
  apply wpAny_bind
  apply wpAny_holding
  refine setattr_ok I1 ea hc hn hl rv ?_
  intro s3 I3
  exact wpAny_release ⟨σ, _, I3, q⟩
end

open Evl (Ex)
/-! readings by short names -/
abbrev rAddI : R2 := rI0 fun i j => .int (i + j)
abbrev rSubI : R2 := rI0 fun i j => .int (i - j)
abbrev rMulI : R2 := rI CMul fun i j => .int (i * j)
abbrev rDivI : R2 := rI CDiv fun i j => .int (i / j)
abbrev rDivW : R2 := rI CDivW fun i j => .int (i / j)
abbrev rMulW : R2 := rI CMulW fun i j => .int (i * j)
abbrev rModI : R2 := rI (fun _ j => 0 < j) fun i j => .int (i % j)
abbrev rPowI : R2 := rI CPow fun i j => .int (i ^ j.toNat)
abbrev rShlI : R2 := rI CPow fun i j => .int (i * 2 ^ j.toNat)
abbrev rShrI : R2 := rI (fun _ j => 0 ≤ j) fun i j => .int (i / 2 ^ j.toNat)
abbrev rAndI : R2 := rI0 fun i j => .int (Builtin.bitAnd i j)
abbrev rOrI : R2 := rI0 fun i j => .int (Builtin.bitOr i j)
abbrev rXorI : R2 := rI0 fun i j => .int (Builtin.bitXor i j)
abbrev rLtI : R2 := rI0 fun i j => .bl (decide (i < j))
abbrev rLeI : R2 := rI0 fun i j => .bl (decide (i ≤ j))
abbrev rGtI : R2 := rI0 fun i j => .bl (decide (j < i))
abbrev rGeI : R2 := rI0 fun i j => .bl (decide (j ≤ i))
abbrev rNegI : V → Hp → VK → Prop := rU fun i => .int (-i)
def rIsTy : R2 := fun x y H Q => ∃ a b, x = V.ty a ∧
  y = V.ty b ∧ Q (.bl (decide (a = b))) H
def rIntI : List V → Hp → VK → Prop := fun xs H Q => ∃ i, xs = [V.int i] ∧ Q (.int i) H
def rAbsI : List V → Hp → VK → Prop := fun xs H Q => ∃ i, xs = [V.int i] ∧ Q (.int (if i < 0 then -i else i)) H
def rMax2 : List V → Hp → VK → Prop := fun xs H Q => ∃ i j, xs = [V.int i, V.int j] ∧
  Q (.int (if j > i then j else i)) H
def rMin2 : List V → Hp → VK → Prop := fun xs H Q => ∃ i j, xs = [V.int i, V.int j] ∧
  Q (.int (if j < i then j else i)) H
def rLenQ (K : PySem.W.Frag) : List V → Hp → VK → Prop := fun xs H Q => ∃ p ys, xs = [V.ref p] ∧
  (SqL K H p ys ∨ SqT K H p ys) ∧ Q (.int ys.length) H
def rLenS : List V → Hp → VK → Prop := fun xs H Q => ∃ z, xs = [V.str z] ∧ z.length ≤ sizeLine ∧
  Q (.int z.length) H
def rListQ (K : PySem.W.Frag) : List V → Hp → VK → Prop := fun xs H Q => ∃ p ys, xs = [V.ref p] ∧
  (SqL K H p ys ∨ SqT K H p ys) ∧ ∀ l, H l = none → Q (.ref l) (upd H l (.lst ys))
def rStrI : List V → Hp → VK → Prop := fun xs H Q => ∃ i, xs = [V.int i] ∧ i.natAbs.log2 < 1920 ∧
  Q (.str (toString i)) H
def rIsC (C : Addr) : List V → Hp → VK → Prop := fun xs H Q => ∃ a dx fs, xs = [V.ref a, V.ref C] ∧
  H a = some (HO.ins C dx fs) ∧ Q (.bl true) H
def rCatS : R2 := fun x y H Q => ∃ i j, x = V.str i ∧ y = V.str j ∧ i.length + j.length ≤ sizeLine ∧
  Q (.str (i ++ j)) H
section
variable {X : Cx}
theorem cr_intI : CallR X (.type "int") rIntI := fun pins s σ H xs us Q I r h =>
  call_int1 pins s σ H xs us Q I r (Or.inl h)
theorem cr_absI : CallR X (.builtin "abs") rAbsI := call_abs
theorem cr_max2 (hc : X.calm = true) : CallR X (.builtin "max") rMax2 := call_max2 hc
theorem cr_min2 (hc : X.calm = true) : CallR X (.builtin "min") rMin2 := call_min2 hc
theorem cr_lenQ : CallR X (.builtin "len") (rLenQ X.K) := call_len_seq
theorem cr_lenS : CallR X (.builtin "len") rLenS := call_len_str
theorem cr_listQ : CallR X (.type "list") (rListQ X.K) := call_list_of
theorem cr_strI : CallR X (.type "str") rStrI := call_str_int
theorem cr_isC {C : Addr} (c : C8.InsC X.K C) : CallR X (.builtin "isinstance") (rIsC C) := C8.call_isC c
theorem cst_ok {x : Str} {i : Int} (h : ∃ t, X.mg x = some (.int i t)) : ∃ u, X.mg x = some u ∧ RelV (.int i) u :=
  let ⟨t, e⟩ := h
  ⟨_, e, t, rfl⟩
end
/-! promises: what is asked, what is given, what is raised -/
def spR (pre : List V → Hp → Prop) (post : List V → Hp → V → Hp → Prop) : Sp := fun vs H Q _ =>
  pre vs H ∧ ∀ v H', post vs H v H' → Q v H'
def spX (pre : List V → Hp → Prop) (post : List V → Hp → V → Hp → Prop) (ex : List V → Hp → Value → Option Addr → Hp → Prop) : Sp := fun vs H Q E =>
  pre vs H ∧ (∀ v H', post vs H v H' → Q v H') ∧ ∀ c d H', ex vs H c d H' → E c d H'
structure DefOk (P : Program) (w : World) (K : PySem.W.Frag) (mg : Str → Option Value) (base : Heap) (CX : CXT) (k : Nat) (x qual : Str) (st : Stmt) (dvs : List V) (f : Addr) (ps : List Str) (sp : Sp) : Prop where
  ex : ∃ fd, FunD K x qual (defArgs st) (defBody st) (defScope st) dvs [] f fd ∧ FnOk P w K mg base CX k f fd ps sp
/-! readings, step by step, forwards -/
section
variable {σ : L2.St} {H : Hp} {Q : VK} {ta tb tc te tv : TE} {K : PySem.W.Frag} {D : Ends}
theorem k_var {i : Nat} {v : V} (h : σ[i]? = some (some v)) (q : Q v H) : tVar i σ H Q := ⟨v, h, q⟩
theorem k_c {v : V} (q : Q v H) : tC v σ H Q := q
theorem k_op {r : R2} (q : ta σ H fun x H1 => tb σ H1 fun y H2 => r x y H2 Q) : tOp r ta tb σ H Q := q
theorem k_un {r : V → Hp → VK → Prop} (q : ta σ H fun x H1 => r x H1 Q) : tUn r ta σ H Q := q
theorem k_I0 {g : Int → Int → V} {i j : Int} (q : Q (g i j) H) : rI0 g (.int i) (.int j) H Q := ⟨i, j, rfl, rfl, q⟩
theorem k_I {C : Int → Int → Prop} {g : Int → Int → V} {i j : Int} (c : C i j) (q : Q (g i j) H) : rI C g (.int i) (.int j) H Q := ⟨i, j, rfl, rfl, c, q⟩
theorem k_U {g : Int → V} {i : Int} (q : Q (g i) H) : rU g (.int i) H Q := ⟨i, rfl, q⟩
theorem k_eq {x y : V} (s : scal x y = true) (q : Q (.bl (decide (x = y))) H) : rEq x y H Q := ⟨s, q⟩
theorem k_ne {x y : V} (s : scal x y = true) (q : Q (.bl (!decide (x = y))) H) : rNe x y H Q := ⟨s, q⟩
theorem k_eqI {i j : Int} (q : Q (.bl (decide (i = j))) H) : rEq (.int i) (.int j) H Q := ⟨rfl, by
  have e : decide (V.int i = V.int j) = decide (i = j) := by simp
  rw [e]; exact q⟩
theorem k_eqB {i j : Bool} (q : Q (.bl (decide (i = j))) H) : rEq (.bl i) (.bl j) H Q := ⟨rfl, by
  have e : decide (V.bl i = V.bl j) = decide (i = j) := by simp
  rw [e]; exact q⟩
theorem k_neI {i j : Int} (q : Q (.bl (decide (i ≠ j))) H) : rNe (.int i) (.int j) H Q := ⟨rfl, by
  have e : (!decide (V.int i = V.int j)) = decide (i ≠ j) := by simp
  rw [e]; exact q⟩
theorem k_isTy {a b : String} (q : Q (.bl (decide (a = b))) H) : rIsTy (.ty a) (.ty b) H Q := ⟨a, b, rfl, rfl, q⟩
theorem k_isN {x : V} (q : Q (.bl (decide (x = .non))) H) : rIsN x .non H Q := ⟨rfl, q⟩
theorem k_notN {x : V} (q : Q (.bl (!decide (x = .non))) H) : rNotN x .non H Q := ⟨rfl, q⟩
theorem k_ixL {p : Addr} {xs : List V} {i : Int} {v : V} (h : SqL K H p xs) (e : atI xs i = some v) (q : Q v H) : rIxL K (.ref p) (.int i) H Q := ⟨p, xs, i, v, rfl, rfl, h, e, q⟩
theorem k_ixT {p : Addr} {xs : List V} {i : Int} {v : V} (h : SqT K H p xs) (e : atI xs i = some v) (q : Q v H) : rIxT K (.ref p) (.int i) H Q := ⟨p, xs, i, v, rfl, rfl, h, e, q⟩
theorem k_andV (q : ta σ H fun x H1 => ∃ c, x = .bl c ∧ if c = true then tb σ H1 Q else Q (.bl false) H1) : tAndV ta tb σ H Q := q
theorem k_orV (q : ta σ H fun x H1 => ∃ c, x = .bl c ∧ if c = true then Q (.bl true) H1 else tb σ H1 Q) : tOrV ta tb σ H Q := q
theorem k_notV (q : ta σ H fun x H1 => ∃ c, x = .bl c ∧ Q (.bl (!c)) H1) : tNotV ta σ H Q := q
theorem k_if {t : TT} (q : t σ H fun c H1 => if c = true then ta σ H1 Q else tb σ H1 Q) : tIf t ta tb σ H Q := q
theorem k_chain {r r' : R2} (q : ta σ H fun x H1 => tb σ H1 fun y H2 => r x y H2 fun z H3 => ∃ k, z = .bl k ∧ (if k = true then tc σ H3 fun w' H4 => r' y w' H4 Q else Q (.bl false) H3)) : tChain r r' ta tb tc σ H Q := q
theorem k_bl {P : Bool → Prop} {c : Bool} (q : P c) : ∃ k, V.bl c = V.bl k ∧ P k := ⟨c, rfl, q⟩
theorem k_tup {t : TA} (q : t σ H fun xs H1 => xs.length ≤ sizeLine ∧ ∀ p, H1 p = none → Q (.ref p) (upd H1 p (.tup xs))) : tTup t σ H Q := q
theorem k_lst {t : TA} (q : t σ H fun xs H1 => xs.length ≤ sizeLine ∧ ∀ p, H1 p = none → Q (.ref p) (upd H1 p (.lst xs))) : tLst t σ H Q := q
theorem k_cb {r : List V → Hp → VK → Prop} {t : TA} (q : t σ H fun vs H1 => r vs H1 Q) : tCB r t σ H Q := q
theorem k_nil {R : List V → Hp → Prop} (q : R [] H) : tNil σ H R := q
theorem k_cons {t : TA} {R : List V → Hp → Prop} (q : ta σ H fun x H1 => t σ H1 fun xs H2 => R (x :: xs) H2) : tCons ta t σ H R := q
theorem k_rInt {i : Int} (q : Q (.int i) H) : rIntI [.int i] H Q := ⟨i, rfl, q⟩
theorem k_rAbs {i : Int} (q : Q (.int (if i < 0 then -i else i)) H) : rAbsI [.int i] H Q := ⟨i, rfl, q⟩
theorem k_rMax {i j : Int} (q : Q (.int (if j > i then j else i)) H) : rMax2 [.int i, .int j] H Q := ⟨i, j, rfl, q⟩
theorem k_rMin {i j : Int} (q : Q (.int (if j < i then j else i)) H) : rMin2 [.int i, .int j] H Q := ⟨i, j, rfl, q⟩
theorem k_rLenL {p : Addr} {ys : List V} (h : SqL K H p ys) (q : Q (.int ys.length) H) : rLenQ K [.ref p] H Q := ⟨p, ys, rfl, Or.inl h, q⟩
theorem k_rLenT {p : Addr} {ys : List V} (h : SqT K H p ys) (q : Q (.int ys.length) H) : rLenQ K [.ref p] H Q := ⟨p, ys, rfl, Or.inr h, q⟩
theorem k_rStr {i : Int} (h : i.natAbs.log2 < 1920) (q : Q (.str (toString i)) H) : rStrI [.int i] H Q := ⟨i, rfl, h, q⟩
theorem k_rIsC {C a dx : Addr} {fs : List (Str × V)} (h : H a = some (.ins C dx fs)) (q : Q (.bl true) H) : rIsC C [.ref a, .ref C] H Q := ⟨a, dx, fs, rfl, h, q⟩
theorem k_isi {x c : V} {t u : Value} {b : Bool} (hc : ClsV c u) (ht : TyX K H x t) (e : PySem.W.kitOne K t u = some b) (q : Q (.bl b) H) : rIsi K [x, c] H Q := ⟨x, c, t, u, b, rfl, hc, ht, e, q⟩
theorem k_fld {a C dx : Addr} {fs : List (Str × V)} {f : Str} {v : V} (ha : ta σ H fun x H1 => x = .ref a ∧ H1 a = some (.ins C dx fs) ∧ Cls K C ∧ NoAttr K C f ∧ fs.lookup f = some v ∧ Q v H1)
    (mono : ∀ Q1 Q2 : VK, (∀ x H1, Q1 x H1 → Q2 x H1) → ta σ H Q1 → ta σ H Q2) : tFld K ta f σ H Q :=
  mono _ _ (fun _ _ ⟨h1, h2, h3, h4, h5, h6⟩ => ⟨a, C, dx, fs, v, h1, h2, h3, h4, h5, h6⟩) ha
theorem k_call {sp : Sp} {dvs : List V} {E : XK} {t : TA} (q : t σ H fun vs H1 => sp (vs ++ dvs) H1 Q E) : tCall sp dvs E t σ H Q := q
theorem k_meth {C : Addr} {m : Str} {sp : Sp} {dvs : List V} {E : XK} {t : TA} (q : ta σ H fun x H1 => ∃ a dx fs, x = .ref a ∧ H1 a = some (.ins C dx fs) ∧ fs.lookup m = none ∧ t σ H1 fun vs H2 => sp (x :: (vs ++ dvs)) H2 Q E) : tMeth C m sp dvs E ta t σ H Q := q
theorem k_make {C : Addr} {sp : Sp} {dvs : List V} {E : XK} {t : TA} (q : t σ H fun vs H1 => ∀ x dx, H1 x = none → H1 dx = none → dx ≠ x → sp (.ref x :: (vs ++ dvs)) (upd (upd H1 dx (.own x)) x (.ins C dx [])) (fun v H2 => v = .non ∧ Q (.ref x) H2) E) : tMake C sp dvs E t σ H Q := q
theorem k_prop {C : Addr} {sp : Sp} {dvs : List V} {E : XK} (q : ta σ H fun x H1 => ∃ a dx fs, x = .ref a ∧ H1 a = some (.ins C dx fs) ∧ sp (.ref a :: dvs) H1 Q E) : tProp C sp dvs E ta σ H Q := q
/-! tests -/
variable {t u : TT} {R : Bool → Hp → Prop}
theorem k_test (q : te σ H fun x H' => ∃ k, x = .bl k ∧ R k H') : tTest te σ H R := q
theorem k_B (q : te σ H fun x H' => ∃ k, x = .bl k ∧ R k H') : tB te σ H R := q
theorem k_and (q : t σ H fun c H1 => if c = true then u σ H1 R else R false H1) : tAnd t u σ H R := q
theorem k_or (q : t σ H fun c H1 => if c = true then R true H1 else u σ H1 R) : tOr t u σ H R := q
theorem k_not (q : t σ H fun c H1 => R (!c) H1) : tNot t σ H R := q
/-! statements -/
variable {t1 t2 : TS} {g : TG}
theorem k_seq (q : t1 { D with nx := t2 D } σ H) : tSeq t1 t2 D σ H := q
theorem k_next (q : D.nx σ H) : tNext D σ H := q
theorem k_asg (q : te σ H fun x H1 => g x σ H1 D.nx) : tAsg te g D σ H := q
theorem k_name {i : Nat} {v : V} {R : L2.St → Hp → Prop} (q : R (σ.set i (some v)) H) : gName i v σ H R := q
theorem k_ret (q : te σ H D.rt) : tRet te D σ H := q
theorem k_drop (q : te σ H fun _ H1 => D.nx σ H1) : tDrop te D σ H := q
theorem k_ifS (q : t σ H fun b H1 => if b = true then t1 D σ H1 else t2 D σ H1) : tIfS t t1 t2 D σ H := q
theorem k_gtup {n : Nat} {tg : TGs} {a : Addr} {xs : List V} {R : L2.St → Hp → Prop} (h : SqT K H a xs) (l : xs.length = n) (q : tg xs σ H R) : gTup K n tg (.ref a) σ H R := ⟨a, xs, rfl, h, l, q⟩
theorem k_gcons {tg : TG} {tr : TGs} {v : V} {r : List V} {R : L2.St → Hp → Prop} (q : tg v σ H fun σ' H' => tr r σ' H' R) : gCons tg tr (v :: r) σ H R := ⟨v, r, rfl, q⟩
theorem k_gnil {R : L2.St → Hp → Prop} (q : R σ H) : gNil [] σ H R := ⟨rfl, q⟩
theorem k_gfld {a C dx : Addr} {i : Nat} {fs : List (Str × V)} {f : Str} {v : V} {R : L2.St → Hp → Prop} (hs : σ[i]? = some (some (.ref a))) (h : H a = some (.ins C dx fs)) (hc : Cls K C) (hn : NoAttr K C f) (hl : fs.length < 1000) (q : R σ (upd H a (.ins C dx (putF f v fs)))) : gFld K (tVar i) f v σ H R :=
  ⟨_, hs, a, C, dx, fs, rfl, h, hc, hn, hl, q⟩
theorem k_fldv {a C dx : Addr} {i : Nat} {fs : List (Str × V)} {f : Str} {v : V} (hs : σ[i]? = some (some (.ref a))) (h : H a = some (.ins C dx fs)) (hc : Cls K C) (hn : NoAttr K C f) (hl : fs.lookup f = some v) (q : Q v H) : tFld K (tVar i) f σ H Q :=
  ⟨_, hs, a, C, dx, fs, v, rfl, h, hc, hn, hl, q⟩
theorem k_iteT {A B : Prop} (q : A) : if true = true then A else B := q
theorem k_iteF {A B : Prop} (q : B) : if false = true then A else B := by simpa using q
theorem k_pow12 (q : Q (.int 1000000000000) H) : rPowI (.int 10) (.int 12) H Q := k_I ⟨by decide, by decide, by decide⟩ q
theorem k_pow11 (q : Q (.int 100000000000) H) : rPowI (.int 10) (.int 11) H Q := k_I ⟨by decide, by decide, by decide⟩ q
theorem k_pow9 (q : Q (.int 1000000000) H) : rPowI (.int 10) (.int 9) H Q := k_I ⟨by decide, by decide, by decide⟩ q
theorem k_pow30 (q : Q (.int 1000000000000000000000000000000) H) : rPowI (.int 10) (.int 30) H Q := k_I ⟨by decide, by decide, by decide⟩ q
theorem k_pow18 (q : Q (.int 1000000000000000000) H) : rPowI (.int 10) (.int 18) H Q := k_I ⟨by decide, by decide, by decide⟩ q
theorem k_minL {i j : Int} (q : ∀ m, m ≤ i → m ≤ j → (m = i ∨ m = j) → Q (.int m) H) : rMin2 [.int i, .int j] H Q := by
  refine ⟨i, j, rfl, ?_⟩
  by_cases h : j < i
  · rw [if_pos h]; exact q j (by omega) (by omega) (Or.inr rfl)
  · rw [if_neg h]; exact q i (by omega) (by omega) (Or.inl rfl)
theorem k_maxL {i j : Int} (q : ∀ m, i ≤ m → j ≤ m → (m = i ∨ m = j) → Q (.int m) H) : rMax2 [.int i, .int j] H Q := by
  refine ⟨i, j, rfl, ?_⟩
  by_cases h : j > i
  · rw [if_pos h]; exact q j (by omega) (by omega) (Or.inr rfl)
  · rw [if_neg h]; exact q i (by omega) (by omega) (Or.inl rfl)
theorem k_shl1 {j : Int} (h : 0 ≤ j ∧ j ≤ 1000000) (q : ∀ m : Int, 1 ≤ m → m = 2 ^ j.toNat → Q (.int m) H) : rShlI (.int 1) (.int j) H Q := by
  refine k_I ⟨h.1, h.2, by decide⟩ ?_
  rw [Int.one_mul]
  refine q _ ?_ rfl
  have hp : (0 : Int) < 2 ^ j.toNat := Int.pow_pos (by decide)
  omega
theorem k_iteNT {A B : Prop} (q : B) : if (!true) = true then A else B := by simpa using q
theorem k_iteNF {A B : Prop} (q : A) : if (!false) = true then A else B := by simpa using q
theorem k_raise {E : XK} {c : Value} (q : E c none H) : tRaise E c D σ H := q
theorem k_iteD {p A B : Prop} [Decidable p] (h1 : p → A) (h2 : ¬ p → B) : if decide p = true then A else B := by
  by_cases h : p
  · rw [if_pos (decide_eq_true h)]; exact h1 h
  · rw [if_neg (by simpa using h)]; exact h2 h
theorem k_iteN {p A B : Prop} [Decidable p] (h1 : ¬ p → A) (h2 : p → B) : if (!decide p) = true then A else B := by
  by_cases h : p
  · rw [if_neg (by simpa using h)]; exact h2 h
  · rw [if_pos (by simpa using h)]; exact h1 h
theorem k_iteB {b : Bool} {A B : Prop} (h1 : b = true → A) (h2 : b = false → B) : if b = true then A else B := by
  cases b
  · rw [if_neg (by decide)]; exact h2 rfl
  · exact h1 rfl
theorem k_sq {a : Addr} {xs : List V} (h : H a = some (.lst xs)) : SqL K H a xs := Or.inl (Or.inl h)
theorem k_st {a : Addr} {xs : List V} (h : H a = some (.tup xs)) : SqT K H a xs := Or.inl (Or.inl h)
theorem k_while (W : Nat → L2.St → Hp → Prop) (m0 : Nat) (h0 : W m0 σ H)
    (hs : ∀ m σ H, W m σ H → t σ H fun b H1 => if b = true then ∃ N : L2.St → Hp → Prop, (∀ σ' H', N σ' H' → ∃ m', m' < m ∧ W m' σ' H') ∧
      t1 { D with nx := N, ct := N, bk := D.nx } σ H1 else D.nx σ H1) : tWhile t t1 D σ H := ⟨W, ⟨m0, h0⟩, hs⟩
/-- what a loop asks, by a word of its turns -/
def forK (g : TG) (tb : TS) (D : Ends) (σ : L2.St) : It → Hp → Prop := fun J H1 =>
  ∃ W : Nat → Nat → L2.St → Hp → Prop, (∃ m, W 0 m σ H1) ∧
    ∀ i m σ H, W i m σ H → (J.stop i H ∧ D.nx σ H) ∨ (J.go i H ∧
      ∃ N : L2.St → Hp → Prop, (∀ σ' H', N σ' H' → ∃ m', m' < m ∧ W (i + 1) m' σ' H') ∧
        ∀ x H', J.yld i H x H' → g x σ H' fun σ2 H2 => tb { D with nx := N, ct := N, bk := D.nx } σ2 H2)
theorem k_for {wi : TI} {g : TG} {tb : TS} (q : wi σ H (forK g tb D σ)) : tFor wi g tb D σ H := q
theorem k_rng1 {ta : TA} {R : It → Hp → Prop} (q : ta σ H fun vs H1 => ∃ j : Int, vs = [.int j] ∧
  -(2 ^ 62) ≤ j ∧ j < 2 ^ 62 ∧ R (Itr 0 j.toNat) H1) : iRng1 ta σ H R := q
theorem k_rng2 {ta : TA} {R : It → Hp → Prop} (q : ta σ H fun vs H1 => ∃ i j : Int, vs = [.int i, .int j] ∧
  (-(2 ^ 62) ≤ i ∧ i < 2 ^ 62 ∧ -(2 ^ 62) ≤ j ∧ j < 2 ^ 62) ∧ R (Itr i (j - i).toNat) H1) : iRng2 ta σ H R := q
theorem k_ilist {tl : TE} {R : It → Hp → Prop} (q : tl σ H fun x H1 => ∃ a, x = .ref a ∧
  (∃ xs, SqL K H1 a xs) ∧ R (Itl K a) H1) : iList K tl σ H R := q
theorem k_itup {tl : TE} {R : It → Hp → Prop} (q : tl σ H fun x H1 => ∃ a, x = .ref a ∧
  (∃ xs, SqT K H1 a xs) ∧ R (Itt K a) H1) : iTup K tl σ H R := q
theorem forK_range {g : TG} {tb : TS} {n : Nat} (Pv : Nat → L2.St → Hp → Prop) (h0 : Pv 0 σ H)
    (hs : ∀ (i : Nat) σ' H', i < n → Pv i σ' H' → g (.int (i : Int)) σ' H' fun σ2 H2 => tb { D with nx := Pv (i + 1), ct := Pv (i + 1), bk := D.nx } σ2 H2)
    (hd : ∀ σ' H', Pv n σ' H' → D.nx σ' H') : forK g tb D σ (Itr 0 n) H := by
  refine for_range (lo := 0) (n := n) Pv h0 (fun i σ' H' hi p => ?_) hd
  have e0 : (0 : Int) + (i : Int) = (i : Int) := Int.zero_add _
  rw [e0]
  exact hs i σ' H' hi p
theorem forK_list {g : TG} {tb : TS} {a : Addr} {xs : List V} (Pv : Nat → L2.St → Hp → Prop) (h0 : Pv 0 σ H)
    (hl : ∀ i σ' H', i ≤ xs.length → Pv i σ' H' → SqL K H' a xs)
    (hs : ∀ i x σ' H', xs[i]? = some x → Pv i σ' H' → g x σ' H' fun σ2 H2 => tb { D with nx := Pv (i + 1), ct := Pv (i + 1), bk := D.nx } σ2 H2)
    (hd : ∀ σ' H', Pv xs.length σ' H' → D.nx σ' H') : forK g tb D σ (Itl K a) H := for_list Pv h0 hl hs hd
end
section
variable {σ : L2.St} {H : Hp} {Q : VK} {ta te : TE} {K : PySem.W.Frag}
theorem k_bm {T : String} {r : V → List V → Hp → VK → Prop} {t : TA} (q : ta σ H fun x H1 => tyV K T x H1 ∧
  t σ H1 fun xs H2 => r x xs H2 Q) : tBM K T r ta t σ H Q := q
theorem k_bm0 {T : String} {r : V → List V → Hp → VK → Prop} (q : ta σ H fun x H1 => tyV K T x H1 ∧ r x [] H1 Q) : tBM0 K T r ta σ H Q := q
theorem k_tyl {l : Addr} {xs : List V} {P : Prop} (h : SqL K H l xs) (q : P) : tyV K "list" (.ref l) H ∧ P := ⟨Or.inl ⟨rfl, xs, h⟩, q⟩
theorem k_rApp {l : Addr} {xs : List V} {y : V} (h : H l = some (.lst xs)) (z : xs.length < sizeLine) (q : Q .non (upd H l (.lst (xs ++ [y])))) : rAppend (.ref l) [y] H Q := ⟨l, xs, y, rfl, rfl, h, z, q⟩
theorem k_sizeL {α : Type} {xs : List α} {f : α → V} (h : xs.length ≤ 100000) : (xs.map f).length < sizeLine := by
  rw [List.length_map]; exact Nat.lt_of_le_of_lt h (by decide)
end
section
variable {σ : L2.St} {H : Hp} {t u : TS} {D : Ends}
theorem k_cut (Mid : L2.St → Hp → Prop) (h : t { D with nx := Mid } σ H) (r : ∀ σ' H', Mid σ' H' → u D σ' H') : Evl.tCut t u D σ H := ⟨Mid, h, r⟩
end
theorem tr_step {H H' : Hp} {a : Addr} {o : HO} (e : Ex H H') (h : H a = some o) : H' a = some o := e a o h
section
variable {X : Cx} {CX : CXT} {k : Nat} {f C : Addr} {fd : FuncData} {ps : List Str} {sp : Sp} {E : XK}
/-- x op y, both instances of the class at C -/
def rMine (C : Addr) (sp : Sp) (E : XK) : R2 := fun x y H Q => ∃ a dx fs b dy gs,
  x = V.ref a ∧ y = V.ref b ∧ H a = some (HO.ins C dx fs) ∧ H b = some (HO.ins C dy gs) ∧ sp [x, y] H Q E
def rMine1 (C : Addr) (sp : Sp) (E : XK) : V → Hp → VK → Prop := fun x H Q => ∃ a dx fs,
  x = V.ref a ∧ H a = some (HO.ins C dx fs) ∧ sp [x] H Q E
theorem back_of {z : V} {u : Value} {s' : Shared} {R : Value → Shared → Prop} (r : RelV z u) (q : R u s') : PySem.W.CmpBack R u s' := by
  cases z with
  | non => cases r; exact q
  | bl b => cases r; exact q
  | int i => obtain ⟨t, rfl⟩ := r; exact q
  | str i => obtain ⟨t, rfl⟩ := r; exact q
  | byt i => obtain ⟨t, rfl⟩ := r; exact q
  | flt i => obtain ⟨t, rfl⟩ := r; exact q
  | ref a => cases r; exact q
  | ty n => cases r; exact q
theorem op_mine {op : Operator} (hc : PySem.W.selfFirst X.K C = true) (hm : Meth X.K C (PySem.dunder op.info.2) f) (F : FnOk X.prog X.w X.K X.mg X.base CX k f fd ps sp) (hr : Room k X.A) (hb : Binds X.K fd ps []) (hx : Passes CX X E) :
    OpR X (binaryOp op) (rMine C sp E) := by
  rintro pins s σ H x y v u Q I rx ry ⟨a, dx, fs, b, dy, gs, rfl, rfl, ha, hb', q⟩
  cases (show v = Value.ref a from rx)
  cases (show u = Value.ref b from ry)
  obtain ⟨mA, O, _⟩ := ins_get I.hok ha
  obtain ⟨mB, O', _⟩ := ins_get I.hok hb'
  obtain ⟨od, J, _⟩ := O.look
  obtain ⟨od', J', _⟩ := O'.look
  obtain ⟨m, hF⟩ := I.fr
  refine PySem.W.binop_K hF I.ok.mod.kin J J'.type hc hm.at_ hm.fn ?_
  refine wpAny_mono (run_fn (us := [.ref a, .ref b]) (vs := [.ref a, .ref b]) (dvs := []) (ds := []) F hr hb .nil hx I (.cons rfl (.cons rfl .nil)) q) ?_ (fun _ _ z => z)
  rintro u' s' ⟨z, H', I', rz, qz⟩
  exact back_of (R := EP X pins σ Q) rz ⟨z, H', I', rz, qz⟩
theorem un_mine (hm : Meth X.K C "__neg__" f) (F : FnOk X.prog X.w X.K X.mg X.base CX k f fd ps sp) (hr : Room k X.A) (hb : Binds X.K fd ps []) (hx : Passes CX X E) :
    UnR X (unaryOp .USub) (rMine1 C sp E) := by
  rintro pins s σ H x v Q I rx ⟨a, dx, fs, rfl, ha, q⟩
  cases (show v = Value.ref a from rx)
  obtain ⟨mA, O, _⟩ := ins_get I.hok ha
  obtain ⟨od, J, _⟩ := O.look
  obtain ⟨m, hF⟩ := I.fr
  refine PySem.W.ksp_neg hF I.ok.mod.kin J hm.at_ hm.fn ?_
  exact run_fn (us := [.ref a]) (vs := [.ref a]) (dvs := []) (ds := []) F hr hb .nil hx I (.cons rfl .nil) q
end
/-! small facts -/
theorem get_int {ns : List Int} {i : Nat} {y : V} (h : (ns.map V.int)[i]? = some y) : ∃ z, ns[i]? = some z ∧ y = .int z := by
  rw [List.getElem?_map] at h
  cases e : ns[i]? with
  | none => rw [e] at h; cases h
  | some z => rw [e] at h; exact ⟨z, rfl, (Option.some.inj h).symm⟩
theorem at_int {ns : List Int} {k : Int} (h0 : 0 ≤ k) (h1 : k < ns.length) : ∃ z, ns[k.toNat]? = some z ∧ atI (ns.map V.int) k = some (.int z) := by
  have hk : k.toNat < ns.length := by omega
  refine ⟨ns[k.toNat], by simp [hk], ?_⟩
  have e : ((k.toNat : Nat) : Int) = k := by omega
  have z : atI (ns.map V.int) ((k.toNat : Nat) : Int) = some (V.int ns[k.toNat]) := atI_nat (by simp [hk])
  rw [e] at z
  exact z
theorem ex_of {H H' : Hp} (e : H' = H) : Ex H H' := by rw [e]; exact Evl.Ex.refl H
theorem ex_upd {H : Hp} {p : Addr} {o : HO} (h : H p = none) : Ex H (upd H p o) := Evl.Ex.new h
theorem two_le : ∀ a b : V, [a, b].length ≤ sizeLine := fun _ _ => by show 2 ≤ sizeLine; decide
end Mine
namespace Mine
open PySem PySem.Spec PyProof.Rows L2
open PySem.W (Frag)
/-! the facts of the head: a list of tests of the written part, and the defs -/
def obsM (fs : List (Frag → Bool)) (fn : List He5.DefA) (K : Frag) : He.AlD :=
  ((fs.all fun f => f K) && fn.all fun d => d.ok K, fn.map fun d => He5.fnA K (d.at_ K))
def SaysM (fs : List (Frag → Bool)) (fn : List He5.DefA) (K : Frag) : Prop := obsM fs fn K = He5.valA fn
def obsMG (n : Nat) (fs : List (Frag → Bool)) (fn : List He5.DefA) (g : Addr → Option Obj) : He.AlD := obsM fs fn (He.frG g (He5.asA g n))
def hookM (n : Nat) (fs : List (Frag → Bool)) (fn : List He5.DefA) : PySem.W.Hook where
  α := He.AlD
  obs s := obsMG n fs fn s.heap.get?
  val _ := He5.valA fn
  says _ h := ∃ K : Frag, K.In h ∧ SaysM fs fn K
  of _ _ e := ⟨_, He.frG_in, e⟩
  keeps _ _ _ := fun ⟨K, hK, c⟩ k => ⟨K, PySem.W.Frag.In.keeps hK k, c⟩
theorem obsMG_eq {n : Nat} {fs : List (Frag → Bool)} {fn : List He5.DefA} {g : Addr → Option Obj} {s : Shared} (h : ∀ a, g a = s.heap.get? a) :
    obsMG n fs fn g = (hookM n fs fn).obs s := by
  have e : g = s.heap.get? := funext h
  subst e
  rfl
theorem SaysM.fact {fs : List (Frag → Bool)} {fn : List He5.DefA} {K : Frag} (c : SaysM fs fn K) (i : Nat) {f : Frag → Bool} (h : fs[i]? = some f) : f K = true := by
  have c1 : ((fs.all fun f => f K) && fn.all fun d => d.ok K) = true := congrArg (fun z : He.AlD => z.1) c
  exact List.all_eq_true.mp (Bool.and_eq_true_iff.mp c1).1 f (List.mem_of_getElem? h)
theorem SaysM.dfn {fs : List (Frag → Bool)} {fn : List He5.DefA} {K : Frag} (c : SaysM fs fn K) (i : Nat) {d : He5.DefA} (h : fn[i]? = some d) :
    ∃ fd, FunD K d.name d.qual d.params d.body d.scope (d.dvs K) (d.kws K) (d.at_ K) fd := by
  have c1 : ((fs.all fun f => f K) && fn.all fun d => d.ok K) = true := congrArg (fun z : He.AlD => z.1) c
  have c2 := List.all_eq_true.mp (Bool.and_eq_true_iff.mp c1).2 d (List.mem_of_getElem? h)
  have e : (fn.map fun d => He5.fnA K (d.at_ K)) = fn.map He5.DefA.val := congrArg (fun z : He.AlD => z.2) c
  have e2 := congrArg (fun l => l[i]?) e
  simp only [List.getElem?_map, h, Option.map_some, Option.some.injEq] at e2
  exact He5.DefA.funD e2 c2
end Mine
namespace Mine
open PySem PySem.Spec PyProof.Rows L2
theorem fd_same {K : PySem.W.Frag} {x q x' q' : Str} {a a' : Arguments} {b b' : List Stmt} {c c' : Scope} {d d' : List V} {k k' : List (Str × V)} {f : Addr} {fd fd' : FuncData} (F : FunD K x q a b c d k f fd) (G : FunD K x' q' a' b' c' d' k' f fd') : fd = fd' := by
  obtain ⟨_, _, _, _, _, _, _, _, _, _, _, l, _⟩ := F.ex
  obtain ⟨_, _, _, _, _, _, _, _, _, _, _, l', _⟩ := G.ex
  have e := Option.some.inj (l.symm.trans l')
  injection e with _ _ e
  injection e
end Mine
namespace Mine
open PySem PySem.Spec PyProof.Rows L2
def propG (K : PySem.W.Frag) (C f : Str) : Addr := match PySem.W.recIn K (He.ma K (He.ga K C) f) "property" with
  | some (.ref g :: _) => g
  | _ => 0
def propB (K : PySem.W.Frag) (C f : Str) : Bool :=
  He.eqO (PySem.W.findIn K (.ref (He.ga K C)) f) (some (some (.ref (He.ma K (He.ga K C) f)))) &&
  (He.eqO (PySem.W.specialIn K (.ref (He.ma K (He.ga K C) f)) "__get__") (some (some (.builtin "property.__get__"))) &&
  (decide (PySem.W.takesIn K (.ref (He.ma K (He.ga K C) f)) = some true) &&
  match PySem.W.recIn K (He.ma K (He.ga K C) f) "property" with
  | some (.ref _ :: _) => true
  | _ => false))
theorem prop_ok {K : PySem.W.Frag} {C f : Str} (h : propB K C f = true) : PropOf K (He.ga K C) f (He.ma K (He.ga K C) f) (propG K C f) := by
  unfold propB at h
  rw [Bool.and_eq_true, Bool.and_eq_true, Bool.and_eq_true] at h
  obtain ⟨h1, h2, h3, h4⟩ := h
  refine ⟨He.eqO_ok h1, He.eqO_ok h2, of_decide_eq_true h3, ?_⟩
  unfold propG
  split at h4
  · rename_i g rest e
    rw [e]; exact ⟨_, rfl⟩
  · cases h4
def inscB (K : PySem.W.Frag) (C : Str) : Bool :=
  (He.Fa.cls C).ok K && (He.eqO (PySem.W.findIn K (.ref (He.ga K C)) "__class__") (some (some (.builtin "object.__class__"))) &&
  (He.eqO (PySem.W.specialIn K (.builtin "object.__class__") "__get__") (some (some (.builtin "getset_descriptor.__get__"))) &&
  (decide (PySem.W.takesIn K (.builtin "object.__class__") = some true) && (decide (PySem.W.mroIn K (He.ga K C) (.type "object") = some true) &&
  decide (PySem.W.kitOne K (.ref (He.ga K C)) (.ref (He.ga K C)) = some true)))))
theorem insc_ok {K : PySem.W.Frag} {C : Str} (h : inscB K C = true) : C8.InsC K (He.ga K C) := by
  unfold inscB at h
  rw [Bool.and_eq_true, Bool.and_eq_true, Bool.and_eq_true, Bool.and_eq_true, Bool.and_eq_true] at h
  obtain ⟨h1, h2, h3, h4, h5, h6⟩ := h
  exact ⟨He.cls_ok h1, He.eqO_ok h2, He.eqO_ok h3, of_decide_eq_true h4, of_decide_eq_true h5, of_decide_eq_true h6⟩
end Mine
namespace Mine
open PySem L2
theorem cls_ty (T : String) : ClsV (.ty T) (.type T) := .ty T
theorem k_isiII {K : PySem.W.Frag} {H : Hp} {Q : VK} {i : Int} (q : Q (.bl true) H) : rIsi K [.int i, .ty "int"] H Q :=
  k_isi (cls_ty "int") (.base (.int i)) (kit_ty (b := "int") (r := true) (by decide +kernel)) q
theorem k_isiIB {K : PySem.W.Frag} {H : Hp} {Q : VK} {i : Int} (q : Q (.bl false) H) : rIsi K [.int i, .ty "bool"] H Q :=
  k_isi (cls_ty "bool") (.base (.int i)) (kit_ty (b := "bool") (r := false) (by decide +kernel)) q
theorem k_isiBB {K : PySem.W.Frag} {H : Hp} {Q : VK} {b : Bool} (q : Q (.bl true) H) : rIsi K [.bl b, .ty "bool"] H Q :=
  k_isi (cls_ty "bool") (.base (.bl b)) (kit_ty (b := "bool") (r := true) (by decide +kernel)) q
/-- the plain form of top / 2 ** power -/
def plainZ : Int → Nat → Int × Int
  | t, 0 => (t, 0)
  | t, n + 1 => if t % 2 = 0 then plainZ (t / 2) n else (t, ((n + 1 : Nat) : Int))
theorem plainZ_zero (t : Int) : plainZ t 0 = (t, 0) := rfl
theorem plainZ_even {t : Int} {n : Nat} (h : t % 2 = 0) : plainZ t (n + 1) = plainZ (t / 2) n := by
  show (if t % 2 = 0 then _ else _) = _
  rw [if_pos h]
theorem plainZ_odd {t : Int} {n : Nat} (h : ¬ t % 2 = 0) : plainZ t (n + 1) = (t, ((n + 1 : Nat) : Int)) := by
  show (if t % 2 = 0 then _ else _) = _
  rw [if_neg h]
theorem plainZ_le : ∀ (t : Int) (n : Nat), 0 ≤ (plainZ t n).2 ∧ (plainZ t n).2 ≤ n
  | t, 0 => by simp [plainZ]
  | t, n + 1 => by
    have ih := plainZ_le (t / 2) n
    by_cases h : t % 2 = 0
    · rw [plainZ_even h]; omega
    · rw [plainZ_odd h]; simp only; omega
/-- the plain form, in words: an even top stands with power 0 alone -/
theorem plainZ_plain : ∀ (t : Int) (n : Nat), (plainZ t n).2 = 0 ∨ ¬ (plainZ t n).1 % 2 = 0
  | t, 0 => Or.inl rfl
  | t, n + 1 => by
    by_cases h : t % 2 = 0
    · rw [plainZ_even h]; exact plainZ_plain _ _
    · rw [plainZ_odd h]; exact Or.inr h
/-- the value: t * 2 ^ p = top * 2 ^ n -/
theorem plainZ_val : ∀ (t : Int) (n : Nat), (plainZ t n).1 * 2 ^ n = t * 2 ^ (plainZ t n).2.toNat
  | t, 0 => by simp [plainZ]
  | t, n + 1 => by
    by_cases h : t % 2 = 0
    · rw [plainZ_even h]
      have ih := plainZ_val (t / 2) n
      have e : t = 2 * (t / 2) := by omega
      rw [Int.pow_succ, ← Int.mul_assoc, ih]
      generalize (plainZ (t / 2) n).2.toNat = k
      generalize t / 2 = u at e
      rw [e, Int.mul_comm (u * 2 ^ k) 2, Int.mul_assoc]
    · rw [plainZ_odd h]; rfl
/-- one plain form a number -/
theorem plain_one {t u : Int} {p q : Nat} (ht : p = 0 ∨ ¬ t % 2 = 0) (hu : q = 0 ∨ ¬ u % 2 = 0) (e : t * 2 ^ q = u * 2 ^ p) : t = u ∧ p = q := by
  have key : ∀ {t u : Int} {p q : Nat}, (q = 0 ∨ ¬ u % 2 = 0) → t * 2 ^ q = u * 2 ^ p → ¬ p < q := by
    intro t u p q hu e h
    have e1 : q = (q - p - 1) + 1 + p := by omega
    rw [e1, Int.pow_add, ← Int.mul_assoc] at e
    have e2 := Int.eq_of_mul_eq_mul_right (Int.ne_of_gt (Int.pow_pos (by decide))) e
    rw [Int.pow_succ, ← Int.mul_assoc] at e2
    omega
  have h1 := key hu e
  have h2 := key ht e.symm
  have h3 : p = q := by omega
  subst h3
  exact ⟨Int.eq_of_mul_eq_mul_right (Int.ne_of_gt (Int.pow_pos (by decide))) e, rfl⟩
/-- two numbers by any of their forms -/
theorem scale (a c : Int) (b d : Nat) : ∃ S : Int, 0 < S ∧ ∃ S' : Int, 0 < S' ∧ (plainZ a b).1 * 2 ^ (plainZ c d).2.toNat * S = a * 2 ^ d * S' ∧ (plainZ c d).1 * 2 ^ (plainZ a b).2.toNat * S = c * 2 ^ b * S' := by
  have v1 := plainZ_val a b
  have v2 := plainZ_val c d
  generalize plainZ a b = x at *
  generalize plainZ c d = y at *
  refine ⟨2 ^ b * 2 ^ d, Int.mul_pos (Int.pow_pos (by decide)) (Int.pow_pos (by decide)), 2 ^ x.2.toNat * 2 ^ y.2.toNat, Int.mul_pos (Int.pow_pos (by decide)) (Int.pow_pos (by decide)), ?_, ?_⟩
  · generalize (2 : Int) ^ y.2.toNat = Y at *
    generalize (2 : Int) ^ x.2.toNat = X at *
    generalize (2 : Int) ^ b = B at *
    generalize (2 : Int) ^ d = D at *
    have : x.1 * Y * (B * D) = (x.1 * B) * (Y * D) := by ac_rfl
    rw [this, v1]; ac_rfl
  · generalize (2 : Int) ^ y.2.toNat = Y at *
    generalize (2 : Int) ^ x.2.toNat = X at *
    generalize (2 : Int) ^ b = B at *
    generalize (2 : Int) ^ d = D at *
    have : y.1 * X * (B * D) = (y.1 * D) * (X * B) := by ac_rfl
    rw [this, v2]; ac_rfl
theorem lt_forms (a c : Int) (b d : Nat) : ((plainZ a b).1 * 2 ^ (plainZ c d).2.toNat < (plainZ c d).1 * 2 ^ (plainZ a b).2.toNat) ↔ (a * 2 ^ d < c * 2 ^ b) := by
  obtain ⟨S, hS, S', hS', e1, e2⟩ := scale a c b d
  constructor
  · intro h
    have h1 := Int.mul_lt_mul_of_pos_right h hS
    rw [e1, e2] at h1
    exact Int.lt_of_mul_lt_mul_right h1 (Int.le_of_lt hS')
  · intro h
    have h1 := Int.mul_lt_mul_of_pos_right h hS'
    rw [← e1, ← e2] at h1
    exact Int.lt_of_mul_lt_mul_right h1 (Int.le_of_lt hS)
theorem eq_forms (a c : Int) (b d : Nat) : ((plainZ a b).1 = (plainZ c d).1 ∧ (plainZ a b).2 = (plainZ c d).2) ↔ (a * 2 ^ d = c * 2 ^ b) := by
  obtain ⟨S, hS, S', hS', e1, e2⟩ := scale a c b d
  have w1 := plainZ_le a b
  have w2 := plainZ_le c d
  constructor
  · rintro ⟨h1, h2⟩
    have h3 : (plainZ a b).1 * 2 ^ (plainZ c d).2.toNat * S = (plainZ c d).1 * 2 ^ (plainZ a b).2.toNat * S := by rw [h1, h2]
    rw [e1, e2] at h3
    exact Int.eq_of_mul_eq_mul_right (Int.ne_of_gt hS') h3
  · intro h
    rw [h, ← e2] at e1
    have h1 := Int.eq_of_mul_eq_mul_right (Int.ne_of_gt hS) e1
    have p1 := plainZ_plain a b
    have p2 := plainZ_plain c d
    have r := plain_one (p := (plainZ a b).2.toNat) (q := (plainZ c d).2.toNat) (by omega) (by omega) h1
    exact ⟨r.1, by omega⟩
theorem bitAnd_one (x : Int) : Builtin.bitAnd x 1 = x % 2 := by
  exact PyProof.Rows.bitAnd_m1 x
end Mine
namespace Mine
open PySem PySem.Spec PyProof.Rows L2
open Evl (Ex)
/-- what of the class Dyadic's text is needed -/
structure FDyadic (K : PySem.W.Frag) : Prop where
  cl : Cls K (He.ga K "Dyadic")
  nt : NoAttr K (He.ga K "Dyadic") "_top"
  np : NoAttr K (He.ga K "Dyadic") "_power"
theorem ktp : ¬ (("_top" : Str) = "_power") := by decide +kernel
/-- its attributes -/
def dfs (t p : Int) : List (Str × V) := putF "_power" (.int p) (putF "_top" (.int t) [])
theorem dfs_top (t p : Int) : (dfs t p).lookup ("_top" : Str) = some (.int t) := by
  unfold dfs
  rw [lookup_putF, if_neg ktp, lookup_putF, if_pos rfl]
theorem dfs_power (t p : Int) : (dfs t p).lookup ("_power" : Str) = some (.int p) := by
  unfold dfs
  rw [lookup_putF, if_pos rfl]
theorem dfs_no (t p : Int) {m : Str} (h1 : ¬ m = "_power") (h2 : ¬ m = "_top") : (dfs t p).lookup m = none := by
  unfold dfs
  rw [lookup_putF, if_neg h1, lookup_putF, if_neg h2]
  all_goals rfl
theorem dfs_len (t p : Int) : (dfs t p).length < 1000 := by
  have h := length_putF "_power" (V.int p) (putF "_top" (V.int t) [])
  have h2 := length_putF "_top" (V.int t) []
  simp only [List.length_nil] at h2
  unfold dfs; omega
def okTop (a b : Int) : Prop := (-1000000000000 ≤ a ∧ a ≤ 1000000000000) ∧ 0 ≤ b ∧ b ≤ 40
/-- a Dyadic stands at a: its plain form's top and power -/
def DyAt (K : PySem.W.Frag) (H : Hp) (a : Addr) (t p : Int) : Prop := ∃ dx, H a = some (.ins (He.ga K "Dyadic") dx (dfs t p))
theorem DyAt.ex {K : PySem.W.Frag} {H H' : Hp} {a : Addr} {t p : Int} (h : DyAt K H a t p) (e : Ex H H') : DyAt K H' a t p :=
  let ⟨dx, q⟩ := h
  ⟨dx, e _ _ q⟩
theorem dy_inj {K : PySem.W.Frag} {H : Hp} {a : Addr} {t p t' p' : Int} (h : DyAt K H a t p) (h' : DyAt K H a t' p') : t = t' ∧ p = p' := by
  obtain ⟨dx, h⟩ := h
  obtain ⟨dx', h'⟩ := h'
  have e := Option.some.inj (h.symm.trans h')
  injection e with _ _ e
  have e1 := congrArg (fun l => List.lookup ("_top" : Str) l) e
  have e2 := congrArg (fun l => List.lookup ("_power" : Str) l) e
  simp only [dfs_top, dfs_power, Option.some.injEq, V.int.injEq] at e1 e2
  exact ⟨e1, e2⟩
theorem dy_tr {K : PySem.W.Frag} {H H' : Hp} {a : Addr} {t p : Int} (e : Ex H H') (h : DyAt K H a t p) : DyAt K H' a t p := h.ex e
theorem dy_prop {K : PySem.W.Frag} {H : Hp} {a : Addr} {t p : Int} {P : Addr → Prop} (h : DyAt K H a t p) (q : P a) :
    ∃ b dx fs, V.ref a = V.ref b ∧ H b = some (HO.ins (He.ga K "Dyadic") dx fs) ∧ P b :=
  let ⟨dx, e⟩ := h
  ⟨a, dx, _, rfl, e, q⟩
theorem dy_isC {K : PySem.W.Frag} {H : Hp} {Q : VK} {a : Addr} {t p : Int} (h : DyAt K H a t p) (q : Q (.bl true) H) : rIsC (He.ga K "Dyadic") [.ref a, .ref (He.ga K "Dyadic")] H Q :=
  let ⟨dx, e⟩ := h
  ⟨a, dx, _, rfl, e, q⟩
/-- x.m(..): what a method call asks of a Dyadic -/
theorem dy_meth {K : PySem.W.Frag} {H : Hp} {a : Addr} {t p : Int} {m : Str} {P : Prop} (h : DyAt K H a t p) (h1 : ¬ m = "_power") (h2 : ¬ m = "_top") (q : P) :
    ∃ b dx fs, V.ref a = V.ref b ∧ H b = some (HO.ins (He.ga K "Dyadic") dx fs) ∧ fs.lookup m = none ∧ P :=
  let ⟨dx, e⟩ := h
  ⟨a, dx, _, rfl, e, dfs_no _ _ h1 h2, q⟩
end Mine
namespace Mine
open PySem L2
/-- the age of a number in plain form -/
def ageZ (t p : Int) : Int := if p = 0 then (if t < 0 then -t else t) else (if t < 0 then -t else t) / 2 ^ p.toNat + p + 1
def ageN : Nat → Nat → Nat
  | n, 0 => n
  | n, p + 1 => if n % 2 = 0 then ageN (n / 2) p else n / 2 ^ (p + 1) + (p + 1) + 1
theorem ageN_even {n p : Nat} (h : n % 2 = 0) : ageN n (p + 1) = ageN (n / 2) p := by
  show (if n % 2 = 0 then _ else _) = _
  rw [if_pos h]
theorem ageN_odd {n p : Nat} (h : ¬ n % 2 = 0) : ageN n (p + 1) = n / 2 ^ (p + 1) + (p + 1) + 1 := by
  show (if n % 2 = 0 then _ else _) = _
  rw [if_neg h]
theorem abs_if (t : Int) : (if t < 0 then -t else t) = (t.natAbs : Int) := by split <;> omega
theorem ageZ_N : ∀ (t : Int) (p : Nat), ageZ (plainZ t p).1 (plainZ t p).2 = (ageN t.natAbs p : Nat)
  | t, 0 => by
    show (if (0 : Int) = 0 then _ else _) = _
    rw [if_pos rfl, abs_if]; rfl
  | t, p + 1 => by
    by_cases h : t % 2 = 0
    · rw [plainZ_even h, ageN_even (by omega), ageZ_N (t / 2) p]
      congr 2; omega
    · rw [plainZ_odd h, ageN_odd (by omega)]
      show (if ((p + 1 : Nat) : Int) = 0 then _ else _) = _
      rw [if_neg (by omega), abs_if, Int.toNat_natCast]
      push_cast
      rfl
theorem plainZ_idem : ∀ (t : Int) (p : Nat), plainZ (plainZ t p).1 (plainZ t p).2.toNat = plainZ t p
  | t, 0 => rfl
  | t, p + 1 => by
    by_cases h : t % 2 = 0
    · rw [plainZ_even h]; exact plainZ_idem _ _
    · rw [plainZ_odd h]
      show plainZ t (((p + 1 : Nat) : Int)).toNat = _
      rw [Int.toNat_natCast, plainZ_odd h]
theorem plainZ_le_abs : ∀ (t : Int) (p : Nat), (plainZ t p).1.natAbs ≤ t.natAbs
  | t, 0 => Nat.le_refl _
  | t, p + 1 => by
    by_cases h : t % 2 = 0
    · rw [plainZ_even h]
      have := plainZ_le_abs (t / 2) p
      omega
    · rw [plainZ_odd h]; exact Nat.le_refl _
theorem div_half (m p : Nat) : m / 2 ^ (p + 1) = m / 2 / 2 ^ p := by
  rw [Nat.pow_succ, Nat.mul_comm, Nat.div_div_eq_div_mul]
theorem age_pair : ∀ (p m : Nat), max (ageN m p) (ageN (m + 1) p) = m / 2 ^ p + p + 1
  | 0, m => by
    show max m (m + 1) = m / 2 ^ 0 + 0 + 1
    rw [Nat.pow_zero, Nat.div_one]; omega
  | p + 1, m => by
    by_cases h : m % 2 = 0
    · rw [ageN_even h, ageN_odd (by omega), div_half, div_half m]
      have e : (m + 1) / 2 = m / 2 := by omega
      rw [e]
      have ih := age_pair p (m / 2)
      omega
    · rw [ageN_odd h, ageN_even (by omega), div_half]
      have ih := age_pair p (m / 2)
      have e : (m + 1) / 2 = m / 2 + 1 := by omega
      rw [e]
      omega
/-- a number that is no integer is one older than the older of its neighbours -/
theorem age_next {n p : Nat} (h : n % 2 = 1) : ageN n (p + 1) = 1 + max (ageN (n - 1) (p + 1)) (ageN (n + 1) (p + 1)) := by
  rw [ageN_odd (by omega), ageN_even (by omega), ageN_even (by omega), div_half]
  have e1 : (n - 1) / 2 = n / 2 := by omega
  have e2 : (n + 1) / 2 = n / 2 + 1 := by omega
  rw [e1, e2, age_pair]
  omega
end Mine
namespace Mine
open PySem L2
/-! numbers in parts of 2 ** 200 -/
def sv (x : Int) (n : Nat) : Int := x * 2 ^ (200 - n)
theorem sv_eq {x y : Int} {n m : Nat} (hn : n ≤ 200) (hm : m ≤ 200) : sv x n = sv y m ↔ x * 2 ^ m = y * 2 ^ n := by
  unfold sv
  have e1 : (2 : Int) ^ (200 - n) * (2 ^ n * 2 ^ m) = 2 ^ 200 * 2 ^ m := by
    rw [← Int.mul_assoc, ← Int.pow_add]; congr 2; omega
  have e2 : (2 : Int) ^ (200 - m) * (2 ^ n * 2 ^ m) = 2 ^ 200 * 2 ^ n := by
    rw [Int.mul_comm (2 ^ n), ← Int.mul_assoc, ← Int.pow_add]; congr 2; omega
  have h1 : (2 : Int) ^ n * 2 ^ m ≠ 0 := Int.ne_of_gt (Int.mul_pos (Int.pow_pos (by decide)) (Int.pow_pos (by decide)))
  have h2 : (2 : Int) ^ 200 ≠ 0 := Int.ne_of_gt (Int.pow_pos (by decide))
  generalize (2 : Int) ^ 200 = Z at *
  generalize (2 : Int) ^ (200 - n) = A at *
  generalize (2 : Int) ^ (200 - m) = B at *
  generalize (2 : Int) ^ n = C at *
  generalize (2 : Int) ^ m = D at *
  constructor
  · intro h
    have h3 : x * A * (C * D) = y * B * (C * D) := by rw [h]
    rw [Int.mul_assoc, e1, Int.mul_assoc, e2] at h3
    have h4 : x * D * Z = y * C * Z := by
      have a1 : x * D * Z = x * (Z * D) := by ac_rfl
      have a2 : y * C * Z = y * (Z * C) := by ac_rfl
      rw [a1, a2, h3]
    exact Int.eq_of_mul_eq_mul_right h2 h4
  · intro h
    have h3 : x * A * (C * D) = y * B * (C * D) := by
      rw [Int.mul_assoc, e1, Int.mul_assoc, e2]
      have a1 : x * (Z * D) = x * D * Z := by ac_rfl
      have a2 : y * (Z * C) = y * C * Z := by ac_rfl
      rw [a1, a2, h]
    exact Int.eq_of_mul_eq_mul_right h1 h3
theorem sv_plain (a : Int) {b : Nat} (hb : b ≤ 200) : sv (plainZ a b).1 (plainZ a b).2.toNat = sv a b := by
  have h := plainZ_le a b
  exact (sv_eq (by omega) hb).mpr (plainZ_val a b)
theorem sv_lift {x : Int} {n k : Nat} (h : n + k ≤ 200) : sv (x * 2 ^ k) (n + k) = sv x n := by
  unfold sv
  rw [Int.mul_assoc, ← Int.pow_add]
  congr 2; omega
theorem sv_add (x y : Int) (n : Nat) : sv (x + y) n = sv x n + sv y n := by unfold sv; rw [Int.add_mul]
theorem sv_sub (x y : Int) (n : Nat) : sv (x - y) n = sv x n - sv y n := by unfold sv; rw [Int.sub_mul]
theorem sv_neg (x : Int) (n : Nat) : sv (-x) n = - sv x n := by unfold sv; rw [Int.neg_mul]
theorem sv_half {x : Int} {n : Nat} (h : n + 1 ≤ 200) : 2 * sv x (n + 1) = sv x n := by
  unfold sv
  have e : 200 - n = (200 - (n + 1)) + 1 := by omega
  rw [e, Int.pow_succ]
  generalize (2 : Int) ^ (200 - (n + 1)) = Z
  rw [Int.mul_comm Z 2]
  ac_rfl
theorem sv_sum {x y : Int} {n m : Nat} (h : n + m ≤ 200) : sv (x * 2 ^ m + y * 2 ^ n) (n + m) = sv x n + sv y m := by
  rw [sv_add, sv_lift h, Nat.add_comm n m, sv_lift (by omega)]
theorem sv_dif {x y : Int} {n m : Nat} (h : n + m ≤ 200) : sv (x * 2 ^ m - y * 2 ^ n) (n + m) = sv x n - sv y m := by
  rw [sv_sub, sv_lift h, Nat.add_comm n m, sv_lift (by omega)]
theorem plain_of_sv {a c : Int} {b d : Nat} (hb : b ≤ 200) (hd : d ≤ 200) (h : sv a b = sv c d) : plainZ a b = plainZ c d := by
  have h1 := (eq_forms a c b d).mpr ((sv_eq hb hd).mp h)
  exact Prod.ext h1.1 h1.2
/-- a text's number in forty parts -/
theorem sv_forty {a : Int} {b : Nat} (h : b ≤ 40) : sv (a * 2 ^ (40 - b)) 40 = sv a b := by
  have e : 40 = b + (40 - b) := by omega
  have := sv_lift (x := a) (n := b) (k := 40 - b) (by omega)
  rw [← e] at this
  exact this
end Mine
namespace Mine
open PySem PySem.Spec PyProof.Rows L2
open Evl (Ex)
open SX (S)
/-! texts of numbers, by their signs -/
def intL (t : Int) : List Nat := if t < 0 then 45 :: TL.numL t.natAbs else TL.numL t.natAbs
theorem int_S (t : Int) : Str.ofString (toString t) = S (intL t) := by
  unfold intL
  by_cases h : t < 0
  · rw [if_pos h, PyProof.Rows.toString_neg h]
    have e : (0 : Int) - t = ((t.natAbs : Nat) : Int) := by omega
    rw [e]
    apply TL.ext_tl
    rw [TL.tl_ofString, String.toList_append, List.map_append]
    have z := congrArg TL.tl (SX.num_S t.natAbs)
    rw [TL.tl_ofString] at z
    rw [z]; rfl
  · rw [if_neg h]
    have e : t = ((t.natAbs : Nat) : Int) := by omega
    rw [e, SX.num_S]; simp
def txtL (t p : Int) : List Nat := if p = 0 then intL t else intL t ++ (47 :: TL.numL (2 ^ p.toNat))
theorem slash_S : (("/" : Str)) = S [47] := by apply TL.ext_tl; rfl
theorem minus_S : (("-" : Str)) = S [45] := by apply TL.ext_tl; rfl
theorem empty_S : (("" : Str)) = S [] := by apply TL.ext_tl; rfl
theorem digits_S : (("0123456789" : Str)) = S [48, 49, 50, 51, 52, 53, 54, 55, 56, 57] := by apply TL.ext_tl; rfl
theorem numL_small {n k : Nat} (hk : 0 < k) (h : n < 10 ^ k) : (TL.numL n).length ≤ k := TL.numL_len hk h
theorem intL_len {t : Int} (h : -1000000000000 ≤ t ∧ t ≤ 1000000000000) : (intL t).length ≤ 14 := by
  have z := numL_small (n := t.natAbs) (k := 13) (by decide) (by omega)
  unfold intL
  split
  · rw [List.length_cons]; omega
  · omega
theorem pw_len {p : Int} (h : 0 ≤ p ∧ p ≤ 40) : (TL.numL (2 ^ p.toNat)).length ≤ 13 := by
  refine numL_small (by decide) ?_
  have h1 : 2 ^ p.toNat ≤ 2 ^ 40 := Nat.pow_le_pow_right (by decide) (by omega)
  have h2 : 2 ^ 40 < 10 ^ 13 := by decide
  omega
theorem pw_cast (n : Nat) : ((2 : Int) ^ n) = ((2 ^ n : Nat) : Int) := by simp
theorem intL_ne (t : Int) : intL t ≠ [] := by
  unfold intL
  split
  · exact List.cons_ne_nil _ _
  · exact TL.numL_ne _
theorem intL_free {t : Int} {c : Nat} (h : c ≠ 45 ∧ (c < 48 ∨ 57 < c)) : c ∉ intL t := by
  have z := TL.numL_free (n := t.natAbs) (s := c) h.2
  unfold intL
  split
  · intro m
    rcases List.mem_cons.mp m with e | m
    · exact h.1 e
    · exact z m
  · exact z
theorem intL_int {t : Int} (h : -1000000000000 ≤ t ∧ t ≤ 1000000000000) : intText? (S (intL t)) = some t := by
  have hl := intL_len h
  by_cases hn : t < 0
  · have e : intL t = 45 :: TL.numL t.natAbs := by unfold intL; rw [if_pos hn]
    have z := intText_neg (x := S (intL t)) (cs := TL.numL t.natAbs) (by rw [e]) (TL.numL_digits _) (TL.numL_ne _) (by rw [SX.S_len]; omega)
    rw [z, TL.numL_val]; congr 1; omega
  · have e : intL t = TL.numL t.natAbs := by unfold intL; rw [if_neg hn]
    rw [e, ← SX.num_S, TL.int_num (by rw [← e]; omega)]; congr 1; omega
theorem rm_minus (l : List Nat) : Txt.removeprefix (S l) (S [45]) = S (if l.head? = some 45 then l.drop 1 else l) := by
  unfold Txt.removeprefix
  have e : Builtin.Str.subAt (S l) (S [45]) 0 = decide (l.head? = some 45) := by
    rw [StrLaws.subAt_eq]
    show ((l.drop 0).take 1 == [45]) = _
    cases l with
    | nil => rfl
    | cons a r =>
      show ([a] == [45]) = decide (some a = some 45)
      by_cases h : a = 45
      · subst h; rfl
      · rw [decide_eq_false (by simpa using h)]
        simp [h]
  rw [e]
  by_cases h : l.head? = some 45
  · rw [decide_eq_true h, if_pos rfl, if_pos h]
    cases l with
    | nil => cases h
    | cons a r =>
      show Txt.affix (S (a :: r)) (some (1, (S (a :: r)).length)) = S r
      unfold Txt.affix
      have hl : (S (a :: r)).length = r.length + 1 := by rw [SX.S_len]; rfl
      dsimp only
      rw [if_neg (by rw [hl]; simp), hl]
      apply TL.ext_tl
      show ((a :: r).toArray.extract 1 (r.length + 1)).toList = r
      simp
  · rw [decide_eq_false h, if_neg (by decide), if_neg h]
    rfl
theorem rm_intL (t : Int) : Txt.removeprefix (S (intL t)) (S [45]) = S (TL.numL t.natAbs) := by
  rw [rm_minus]
  congr 1
  unfold intL
  by_cases h : t < 0
  · rw [if_pos h]; rfl
  · rw [if_neg h, if_neg]
    intro e
    have m : (45 : Nat) ∈ TL.numL t.natAbs := List.mem_of_head? e
    exact TL.numL_free (Or.inl (by decide)) m
theorem part_txt {t p : Int} : Txt.partition (S (txtL t p)) (S [47]) = if p = 0 then (S (intL t), S [], S []) else (S (intL t), S [47], S (TL.numL (2 ^ p.toNat))) := by
  unfold txtL
  by_cases h : p = 0
  · rw [if_pos h, if_pos h]
    exact SX.partition_none (by simp) (SX.par_head_none (intL_free ⟨by decide, by decide⟩))
  · rw [if_neg h, if_neg h]
    exact SX.partition_some (by simp) (SX.par_head (sep := []) _ (intL_free ⟨by decide, by decide⟩))
/-! a method of the class that takes no self -/
structure SMet (K : PySem.W.Frag) (C : Addr) (m : Str) (p g : Addr) : Prop where
  rd : PySem.W.readsIn K C (.type "type") = true
  ga : PySem.W.specialIn K (.ref C) "__getattribute__" = some (some (.builtin "type.__getattribute__"))
  at_ : PySem.W.findCls K (.ref C) (.type "type") m = some (.get (.builtin "staticmethod.__get__") (.ref p) .none (.ref C))
  rc : ∃ rest, PySem.W.recIn K p "staticmethod" = some (.ref g :: rest)
def tSMeth (C : Addr) (sp : Sp) (dvs : List V) (E : XK) (ta : TE) (t : TA) : TE := fun σ H Q => ta σ H fun x H1 => x = .ref C ∧ t σ H1 fun vs H2 => sp (vs ++ dvs) H2 Q E
section
variable {X : Cx} {CX : CXT} {k : Nat} {C p g : Addr} {fd : FuncData} {ps : List Str} {dvs : List V} {ds : List Value} {sp : Sp} {E : XK} {o e : Expr} {es : List Expr} {m : Str} {pos apos : Pos} {ta : TE} {t : TA} {pl : Sem Bool}
theorem pe_smeth (he : PE X o ta) (c : SMet X.K C m p g) (kp : PySem.W.keepIn X.K (.ref g) = true) (F : FnOk X.prog X.w X.K X.mg X.base CX k g fd ps sp) (hr : Room k X.A) (hb : Binds X.K fd ps ds) (hd : Vals dvs ds) (hx : Passes CX X E) (ha : PA X (e :: es) t)
    (hst : starEach (e :: es) X.env = (false, eval e X.env) :: starEach es X.env := by rfl) (hpl : (backTo pos (starEach es X.env)).any (·.1) = false := by rfl)
    (ht : eval (.Call (.Attribute o m apos) (e :: es) [] pos) X.env = (do
      let ov ← eval o X.env
      standAt apos.atName
      let (f, first) ← holding [ov] (getMethod ov m pl)
      callWith pos f first (backTo pos (starEach (e :: es) X.env)) (backToKw pos (keywordEach [] X.env))) := by rfl) :
    PE X (.Call (.Attribute o m apos) (e :: es) [] pos) (tSMeth C sp dvs E ta t) := by
  constructor
  intro pins s σ H Q I h
  refine PySem.W.methodCall_KW (pl := pl) (thn (he.run pins s σ H _ I h) ?_) ht
  rintro u s1 ⟨x, H1, I1, rx, ex, q⟩
  subst ex
  obtain rfl : u = Value.ref C := rx
  obtain ⟨rest, hp⟩ := c.rc
  refine PySem.W.method_cls I1.kIn c.ga (PySem.W.cls_bind I1.kIn c.rd c.at_ (wpAny_call (PySem.W.sm_get (s := { s1 with toks := s1.toks + 1 }) I1.kIn hp (PySem.W.handed_on rfl ?_))))
  have I2 := I1.tok (s1.toks + 1)
  refine PySem.W.callWith_K (h₀ := X.base) I2.ok.mod.kin kp (thn (ha.run pos pins _ σ H1 _ I2 q) ?_) hst hpl
  rintro us s3 ⟨vs, H2, I3, rv, q2⟩
  exact ⟨I3.kIn, run_fn F hr hb hd hx I3 rv q2⟩
end
open PySem.W (Frag)
def statG (K : Frag) (C f : Str) : Addr := match PySem.W.recIn K (He.ma K (He.ga K C) f) "staticmethod" with
  | some (.ref g :: _) => g
  | _ => 0
def statB (K : Frag) (C f : Str) : Bool :=
  PySem.W.readsIn K (He.ga K C) (.type "type") &&
  (He.eqO (PySem.W.specialIn K (.ref (He.ga K C)) "__getattribute__") (some (some (.builtin "type.__getattribute__"))) &&
  ((match PySem.W.findCls K (.ref (He.ga K C)) (.type "type") f with
    | some (.get g a obj tp) => decide (g = .builtin "staticmethod.__get__") && (decide (a = .ref (He.ma K (He.ga K C) f)) && (decide (obj = .none) && decide (tp = .ref (He.ga K C))))
    | _ => false) &&
  match PySem.W.recIn K (He.ma K (He.ga K C) f) "staticmethod" with
  | some (.ref _ :: _) => true
  | _ => false))
theorem stat_ok {K : Frag} {C f : Str} (h : statB K C f = true) : SMet K (He.ga K C) f (He.ma K (He.ga K C) f) (statG K C f) := by
  unfold statB at h
  rw [Bool.and_eq_true, Bool.and_eq_true, Bool.and_eq_true] at h
  obtain ⟨h1, h2, h3, h4⟩ := h
  refine ⟨h1, He.eqO_ok h2, ?_, ?_⟩
  · split at h3
    · rename_i g a obj tp e
      rw [Bool.and_eq_true, Bool.and_eq_true, Bool.and_eq_true] at h3
      rw [e, of_decide_eq_true h3.1, of_decide_eq_true h3.2.1, of_decide_eq_true h3.2.2.1, of_decide_eq_true h3.2.2.2]
    · cases h3
  · unfold statG
    split at h4
    · rename_i g rest e
      rw [e]; exact ⟨_, rfl⟩
    · cases h4
end Mine
namespace Mine
open PySem PySem.Spec PyProof.Rows L2
open Evl (Ex)
open SX (S)
def rPartS : V → List V → Hp → VK → Prop := fun x xs H Q => ∃ a b, x = .str a ∧ xs = [.str b] ∧ (b.length == 0) = false ∧ a.length ≤ sizeLine ∧
  ∀ p, H p = none → Q (.ref p) (upd H p (.tup [.str (Txt.partition a b).1, .str (Txt.partition a b).2.1, .str (Txt.partition a b).2.2]))
def rRmPre : V → List V → Hp → VK → Prop := fun x xs H Q => ∃ a b, x = .str a ∧ xs = [.str b] ∧ a.length ≤ sizeLine ∧ Q (.str (Txt.removeprefix a b)) H
def rIntS : List V → Hp → VK → Prop := fun xs H Q => ∃ a n, xs = [.str a] ∧ PySem.intText? a = some n ∧ a.length ≤ 640 ∧ Q (.int n) H
def tJoin (ts : List TE) : TE := fun σ H Q => tJs ts Str.empty σ H fun out H1 => Q (.str out) H1
end Mine
namespace Mine
open PySem PySem.Spec PyProof.Rows L2
open Evl (Ex)
open SX (S)
theorem log_ok {t : Int} (h : -1000000000000000 ≤ t ∧ t ≤ 1000000000000000) : t.natAbs.log2 < 1920 := by
  have h1 : (2 : Nat) ^ 60 = 1152921504606846976 := by decide
  have h2 : t.natAbs < 2 ^ 60 := by rw [h1]; omega
  exact Nat.lt_of_lt_of_le (PySem.Flt.log2_lt_of (by decide) h2) (by decide)
theorem pw_ok {p : Int} (h : 0 ≤ p ∧ p ≤ 40) : ((1 : Int) * 2 ^ p.toNat) = ((2 ^ p.toNat : Nat) : Int) ∧ ((2 ^ p.toNat : Nat) : Int) ≤ 1099511627776 ∧ (0 : Int) ≤ ((2 ^ p.toNat : Nat) : Int) := by
  have h1 : 2 ^ p.toNat ≤ 2 ^ 40 := Nat.pow_le_pow_right (by decide) (by omega)
  have h2 : 2 ^ 40 = 1099511627776 := by decide
  rw [h2] at h1
  exact ⟨by rw [Int.one_mul, pw_cast], (by have z := Int.ofNat_le.mpr h1; exact z), Int.natCast_nonneg _⟩
theorem line_ok {n : Nat} (h : n ≤ 600) : n ≤ sizeLine := Nat.le_trans h (by decide)
theorem okTop_pl {a b : Int} (h : okTop a b) : okTop (plainZ a b.toNat).1 (plainZ a b.toNat).2 := by
  have h1 := plainZ_le a b.toNat
  have h2 := plainZ_le_abs a b.toNat
  obtain ⟨⟨a1, a2⟩, b1, b2⟩ := h
  exact ⟨⟨by omega, by omega⟩, by omega, by omega⟩
theorem txt_len {t p : Int} (h : okTop t p) : (txtL t p).length ≤ 40 := by
  have h1 := intL_len h.1
  have h2 := pw_len h.2
  unfold txtL
  split
  · omega
  · rw [List.length_append, List.length_cons]; omega
section
variable {σ : L2.St} {H : Hp} {Q : VK} {K : PySem.W.Frag}
theorem k_eqS {a b : List Nat} (q : Q (.bl (decide (a = b))) H) : rEq (.str (S a)) (.str (S b)) H Q := ⟨rfl, by
  have e : decide (V.str (S a) = V.str (S b)) = decide (a = b) := decide_eq_decide.mpr ⟨fun h => SX.S_inj (V.str.inj h), fun h => by rw [h]⟩
  rw [e]; exact q⟩
theorem k_neS {a b : List Nat} (q : Q (.bl (!decide (a = b))) H) : rNe (.str (S a)) (.str (S b)) H Q := ⟨rfl, by
  have e : decide (V.str (S a) = V.str (S b)) = decide (a = b) := decide_eq_decide.mpr ⟨fun h => SX.S_inj (V.str.inj h), fun h => by rw [h]⟩
  rw [e]; exact q⟩
theorem k_tys {a : Str} {P : Prop} (q : P) : tyV K "str" (.str a) H ∧ P := ⟨by first | exact Or.inr ⟨rfl, a, rfl⟩ | exact Or.inr (Or.inl ⟨rfl, a, rfl⟩) | (unfold tyV; simp), q⟩
theorem k_isiSS {a : Str} (q : Q (.bl true) H) : rIsi K [.str a, .ty "str"] H Q :=
  k_isi (cls_ty "str") (.base (.str a)) (kit_ty (b := "str") (r := true) (by decide +kernel)) q
theorem k_typS {a : Str} (q : Q (.ty "str") H) : rTyp K [.str a] H Q := ⟨_, _, rfl, .str a, q⟩
theorem k_NT {a b : String} (q : Q (.bl (!decide (a = b))) H) : rNT (.ty a) (.ty b) H Q := ⟨a, b, rfl, rfl, q⟩
theorem k_partS {a b : List Nat} (h : b ≠ []) (hl : a.length ≤ 600) (q : ∀ p, H p = none → Q (.ref p) (upd H p (.tup [.str (Txt.partition (S a) (S b)).1, .str (Txt.partition (S a) (S b)).2.1, .str (Txt.partition (S a) (S b)).2.2]))) : rPartS (.str (S a)) [.str (S b)] H Q :=
  ⟨S a, S b, rfl, rfl, by
    show ((S b).length == 0) = false
    rw [SX.S_len]
    cases b with
    | nil => exact absurd rfl h
    | cons _ _ => rfl, by rw [SX.S_len]; exact line_ok hl, q⟩
theorem k_rm {a b : List Nat} (hl : a.length ≤ 600) (q : Q (.str (Txt.removeprefix (S a) (S b))) H) : rRmPre (.str (S a)) [.str (S b)] H Q := ⟨S a, S b, rfl, rfl, by rw [SX.S_len]; exact line_ok hl, q⟩
theorem k_intS {a : List Nat} {n : Int} (e : intText? (S a) = some n) (hl : a.length ≤ 600) (q : Q (.int n) H) : rIntS [.str (S a)] H Q := ⟨S a, n, rfl, e, by rw [SX.S_len]; omega, q⟩
theorem k_lenS {a : List Nat} (hl : a.length ≤ 600) (q : Q (.int a.length) H) : rLenS [.str (S a)] H Q := ⟨S a, rfl, by rw [SX.S_len]; exact line_ok hl, by rw [SX.S_len]; exact q⟩
theorem k_strI {i : Int} (h : -1000000000000000 ≤ i ∧ i ≤ 1000000000000000) (q : Q (.str (S (intL i))) H) : rStrI [.int i] H Q := ⟨i, rfl, log_ok h, by rw [int_S]; exact q⟩
theorem k_catS {a b : List Nat} (h : a.length + b.length ≤ 600) (q : Q (.str (S (a ++ b))) H) : rCatS (.str (S a)) (.str (S b)) H Q := ⟨S a, S b, rfl, rfl, by rw [SX.S_len, SX.S_len]; exact line_ok h, by rw [SX.S_cat]; exact q⟩
theorem k_inS {c : Nat} {b : List Nat} (q : Q (.bl (decide (c ∈ b))) H) : rInS (.str ⟨#[c]⟩) (.str (S b)) H Q := ⟨c, S b, rfl, rfl, q⟩
theorem k_all {a : Addr} {bs : List Bool} (h : SqL K H a (bs.map V.bl)) (q : Q (.bl (bs.all id)) H) : rAll K [.ref a] H Q := ⟨a, bs, rfl, h, q⟩
theorem k_truS {te : TE} {R : Bool → Hp → Prop} (q : te σ H fun x H' => ∃ k, TruV K x H' k ∧ R k H') : tTru K te σ H R := q
theorem tru_S {a : List Nat} {R : Bool → Prop} (hl : a.length ≤ 600) (q : R (!decide (a = []))) : ∃ k, TruV K (.str (S a)) H k ∧ R k := by
  refine ⟨_, ⟨by rw [SX.S_len]; exact line_ok hl, ?_⟩, q⟩
  rw [SX.S_len]
  cases a with
  | nil => rfl
  | cons c r =>
    show (!decide (c :: r = [])) = (((r.length + 1 : Nat) : Int) != 0)
    rw [decide_eq_false (List.cons_ne_nil _ _)]
    rw [show (((r.length + 1 : Nat) : Int) != 0) = true from bne_iff_ne.mpr (by omega)]
    rfl
theorem lc_txt {l : List Nat} {g : TG} {tt : TT} {te : TE} {vs : List Nat} {H1 : Hp} {D : Addr} {Qd : Hp → Prop} (Pv : Nat → Hp → Prop) (h0 : Pv 0 (upd H1 D (.lst [])))
    (hs : ∀ i c H, l[i]? = some c → Pv i H → g (.str ⟨#[c]⟩) (wipe σ vs) H fun σ2 H2 => wipe σ2 vs = wipe σ vs ∧ tt σ2 H2 fun b H3 =>
      if b = true then te σ2 H3 fun y H4 => ∃ acc, H4 D = some (.lst acc) ∧ acc.length < sizeLine ∧ Pv (i + 1) (upd H4 D (.lst (acc ++ [y]))) else Pv (i + 1) H3) (hd : ∀ H, Pv l.length H → Qd H) :
    ∃ W : Nat → Nat → Hp → Prop, (∃ m, W 0 m (upd H1 D (.lst []))) ∧ ∀ i m H, W i m H →
      ((Its (S l)).stop i H ∧ Qd H) ∨ ((Its (S l)).go i H ∧ ∃ Nx : Hp → Prop, (∀ H', Nx H' → ∃ m', m' < m ∧ W (i + 1) m' H') ∧ ∀ x H', (Its (S l)).yld i H x H' → g x (wipe σ vs) H' fun σ2 H2 => wipe σ2 vs = wipe σ vs ∧ tt σ2 H2 fun b H3 =>
        if b = true then te σ2 H3 fun y H4 => ∃ acc, H4 D = some (.lst acc) ∧ acc.length < sizeLine ∧ Nx (upd H4 D (.lst (acc ++ [y]))) else Nx H3) := by
  refine ⟨fun i m H => i ≤ l.length ∧ m = l.length - i ∧ Pv i H, ⟨l.length, Nat.zero_le _, by omega, h0⟩, ?_⟩
  rintro i m H ⟨hi, rfl, p⟩
  rcases Nat.lt_or_ge i l.length with h | h
  · refine Or.inr ⟨by show i < (S l).cps.size; simpa using h, Pv (i + 1), fun H' p' => ⟨l.length - (i + 1), by omega, by omega, rfl, p'⟩, ?_⟩
    rintro x H' ⟨rfl, c, hc, rfl⟩
    exact hs i c _ (by simpa using hc) p
  · have e : i = l.length := by omega
    subst e
    exact Or.inl ⟨by show (S l).cps.size ≤ l.length; simp, hd H p⟩
end
end Mine
namespace Mine
open PySem PySem.Spec PyProof.Rows L2
open Evl (Ex)

local macro_rules | `(tactic| walk_at "mcond") => `(tactic| first
  | (show (0 : Int) < _; omega)
  | (show (0 : Int) ≤ _; omega)
  | (show CDiv _ _; exact ⟨by omega, by omega⟩)
  | (show CPow _ _; exact ⟨by omega, by omega, by omega⟩)
  | (show CMul _ _; exact Or.inl ⟨by omega, by omega⟩)
  | (show CMul _ _; exact Or.inr ⟨by omega, by omega⟩)
  | assumption)
local macro_rules | `(tactic| walk_at "mtr") => `(tactic| first
  | assumption
  | (refine tr_step (H := ?_) ?_ ?_; rotate_left; (focus assumption); walk_at "mtr"))
local macro_rules | `(tactic| walk_at "msq") => `(tactic| first
  | assumption
  | (refine k_sq ?_; walk_at "mtr")
  | (refine k_st ?_; walk_at "mtr")
  | exact Evl.ex_l (by first | assumption | solve_by_elim) (by assumption)
  | exact Evl.ex_t (by first | assumption | solve_by_elim) (by assumption))
local macro_rules | `(tactic| walk_at "mins") => `(tactic| walk_at "mtr")
local macro_rules | `(tactic| walk_at "mcls") => `(tactic| first | assumption | (apply FDyadic.cl; assumption))
local macro_rules | `(tactic| walk_at "mna") => `(tactic| first | assumption | (apply FDyadic.nt; assumption) | (apply FDyadic.np; assumption))
local macro_rules | `(tactic| walk_at "mlk") => `(tactic| first | assumption | exact dfs_top _ _ | exact dfs_power _ _)
local macro_rules | `(tactic| walk_at "mdy") => `(tactic| first
  | assumption
  | (refine dy_tr (H := ?_) ?_ ?_; rotate_left; (focus assumption); walk_at "mdy"))
local macro_rules | `(tactic| walk_at "mst") => `(tactic| first
  | with_reducible refine k_seq ?_
  | with_reducible refine k_asg ?_
  | ((with_reducible refine k_fldv (v := ?_) (fs := ?_) (C := ?_) (dx := ?_) (a := ?_) ?_ ?_ ?_ ?_ ?_ ?_); rotate_left 5; (focus exact rfl); (focus walk_at "mins"); (focus walk_at "mcls"); (focus walk_at "mna"); (focus walk_at "mlk"))
  | with_reducible refine k_name ?_
  | ((with_reducible refine k_var (v := ?_) ?_ ?_); rotate_left; (focus exact rfl))
  | with_reducible refine k_c ?_
  | with_reducible refine k_op ?_
  | with_reducible refine k_un ?_
  | with_reducible refine k_I0 ?_
  | with_reducible refine k_pow12 ?_
  | with_reducible refine k_pow18 ?_
  | with_reducible refine k_pow11 ?_
  | with_reducible refine k_pow9 ?_
  | with_reducible refine k_pow30 ?_
  | ((with_reducible refine k_shl1 ?_ ?_); (focus (constructor <;> omega)); intro _ _ _)
  | ((with_reducible refine k_minL ?_); intro _ _ _ _)
  | ((with_reducible refine k_maxL ?_); intro _ _ _ _)
  | ((with_reducible refine k_I ?_ ?_); (focus walk_at "mcond"))
  | with_reducible refine k_U ?_
  | with_reducible refine k_eqI ?_
  | with_reducible refine k_eqB ?_
  | with_reducible refine k_neI ?_
  | with_reducible refine k_isTy ?_
  | with_reducible refine k_isiII ?_
  | with_reducible refine k_isiIB ?_
  | with_reducible refine k_isiBB ?_
  | with_reducible refine k_isN ?_
  | with_reducible refine k_notN ?_
  | with_reducible refine k_chain ?_
  | with_reducible refine k_bl ?_
  | with_reducible refine k_test ?_
  | with_reducible refine k_B ?_
  | with_reducible refine k_and ?_
  | with_reducible refine k_or ?_
  | with_reducible refine k_not ?_
  | with_reducible refine k_if ?_
  | with_reducible refine k_ifS ?_
  | with_reducible refine k_andV ?_
  | with_reducible refine k_orV ?_
  | with_reducible refine k_notV ?_
  | with_reducible refine k_tup ?_
  | with_reducible refine k_lst ?_
  | with_reducible refine k_cb ?_
  | with_reducible refine k_nil ?_
  | with_reducible refine k_cons ?_
  | with_reducible refine k_rInt ?_
  | with_reducible refine k_rAbs ?_
  | with_reducible refine k_rMax ?_
  | with_reducible refine k_rMin ?_
  | ((with_reducible refine k_rLenL (ys := ?_) ?_ ?_); rotate_left; (focus walk_at "msq"))
  | ((with_reducible refine k_rLenT (ys := ?_) ?_ ?_); rotate_left; (focus walk_at "msq"))
  | with_reducible refine k_bm ?_
  | with_reducible refine k_bm0 ?_
  | ((with_reducible refine k_tyl (xs := ?_) ?_ ?_); rotate_left; (focus walk_at "msq"))
  | ((with_reducible refine k_rApp (xs := ?_) ?_ ?_ ?_); rotate_left; (focus walk_at "mtr"))
  | ((with_reducible refine dy_meth (t := ?_) (p := ?_) ?_ ?_ ?_ ?_); rotate_left 2; (focus walk_at "mdy"); (focus decide +kernel); (focus decide +kernel))
  | ((with_reducible refine dy_prop (t := ?_) (p := ?_) ?_ ?_); rotate_left 2; (focus walk_at "mdy"))
  | ((with_reducible refine dy_isC (t := ?_) (p := ?_) ?_ ?_); rotate_left 2; (focus walk_at "mdy"))
  | with_reducible refine k_call ?_
  | with_reducible refine k_meth ?_
  | with_reducible refine k_make ?_
  | with_reducible refine k_prop ?_
  | with_reducible refine k_ret ?_
  | with_reducible refine k_drop ?_
  | with_reducible refine k_next ?_
  | with_reducible refine k_for ?_
  | with_reducible refine k_rng1 ?_
  | with_reducible refine k_rng2 ?_
  | with_reducible refine k_ilist ?_
  | with_reducible refine k_itup ?_
  | with_reducible refine k_iteT ?_
  | with_reducible refine k_iteNT ?_
  | with_reducible refine k_iteNF ?_
  | with_reducible refine k_raise ?_
  | with_reducible refine k_iteF ?_
  | ((with_reducible refine k_ixT (xs := ?_) (v := ?_) ?_ ?_ ?_); rotate_left 2; (focus walk_at "msq"); (focus exact rfl))
  | with_reducible refine k_gnil ?_
  | with_reducible refine k_gcons ?_)
def sp_law_digits (K : PySem.W.Frag) : Sp := spR (fun vs H => ∃ (c n : Int), vs = [.int c, .int n] ∧ 0 ≤ n ∧ n ≤ 1000)
  (fun vs H v H' => ∃ (c n : Int) (p : Addr) (ds : List Int), vs = [.int c, .int n] ∧ v = .ref p ∧ H p = none ∧ Ex H H' ∧ H' p = some (.lst (ds.map V.int)) ∧ (ds.length : Int) = n ∧ ∀ d ∈ ds, 0 ≤ d ∧ d < 60)
abbrev N_law_digits : List Str := ["cell", "count", "row", "k", "seed"]
def t_law_digits (K : PySem.W.Frag) (E : XK) : TS := (tSeq (tAsg (tLst tNil) (gName 2)) (tSeq (tIfS (tTest (tOp rGeI (tVar 0) (tOp rPowI (tC (.int 10)) (tC (.int 18))))) (tSeq (tFor (iRng1 (tCons (tVar 1) tNil)) (gName 3) (tSeq (tDrop (tBM K "list" rAppend (tVar 2) (tCons (tOp rModI (tCB rIntI (tCons (tVar 0) tNil)) (tC (.int 60))) tNil))) (tAsg (tOp rDivI (tVar 0) (tC (.int 60))) (gName 0)))) (tRet (tVar 2))) tNext) (tSeq (tAsg (tOp rModI (tCB rIntI (tCons (tOp rAddI (tOp rMulI (tVar 0) (tC (.int 48271))) (tC (.int 11))) tNil)) (tC (.int 2147483647))) (gName 4)) (tSeq (tFor (iRng1 (tCons (tVar 1) tNil)) (gName 3) (tSeq (tAsg (tOp rModI (tCB rIntI (tCons (tOp rAddI (tOp rAddI (tOp rMulI (tVar 4) (tC (.int 69621))) (tOp rMulI (tC (.int 7)) (tVar 3))) (tC (.int 1))) tNil)) (tC (.int 2147483629))) (gName 4)) (tDrop (tBM K "list" rAppend (tVar 2) (tCons (tOp rModI (tCB rIntI (tCons (tOp rDivI (tVar 4) (tC (.int 64))) tNil)) (tC (.int 60))) tNil))))) (tRet (tVar 2))))))
theorem len_law_digits {K : PySem.W.Frag} {vs : List V} {H : Hp} {Q : VK} {E : XK} (h : sp_law_digits K vs H Q E) : vs.length = 2 := by
  obtain ⟨⟨_, _, rfl, _⟩, _⟩ := h; rfl
theorem dg_more {ds : List Int} {z : Int} (h : ∀ d ∈ ds, 0 ≤ d ∧ d < 60) (hz : 0 ≤ z ∧ z < 60) : ∀ d ∈ ds ++ [z], 0 ≤ d ∧ d < 60 := by
  intro d hd
  rcases List.mem_append.mp hd with m | m
  · exact h d m
  · rw [List.mem_singleton.mp m]; exact hz
theorem map_more (ds : List Int) (z : Int) : ds.map V.int ++ [V.int z] = (ds ++ [z]).map V.int := by simp
theorem pure_law_digits {K : PySem.W.Frag} (vs : List V) (H : Hp) (Q : VK) (E : XK) (h : sp_law_digits K vs H Q E) : t_law_digits K E { nx := fun _ H' => Q .non H', rt := Q } (start N_law_digits vs) H := by
  obtain ⟨⟨c, n, rfl, h0, h1⟩, q⟩ := h
  unfold t_law_digits
  repeat walk_at "mst"
  refine ⟨by show 0 ≤ sizeLine; decide, fun p hp => ?_⟩
  repeat walk_at "mst"
  refine k_iteD (fun hc => ?_) (fun hc => ?_)
  · repeat walk_at "mst"
    refine ⟨_, rfl, by omega, by omega, forK_range (fun i σ H' => Ex H H' ∧ ∃ (ds : List Int) (m : Int) (v w : Option V), H' p = some (.lst (ds.map V.int)) ∧ ds.length = i ∧ (∀ d ∈ ds, 0 ≤ d ∧ d < 60) ∧ σ = [some (.int m), some (.int n), some (.ref p), v, w]) ?_ ?_ ?_⟩
    · exact ⟨Evl.Ex.new hp, [], c, none, none, upd_same, rfl, by simp, rfl⟩
    · rintro i σ H' hi ⟨e, ds, m, v, w, hl, hn, hd, rfl⟩
      repeat walk_at "mst"
      · exact k_sizeL (by omega)
      repeat walk_at "mst"
      exact ⟨Evl.Ex.mut e hp, ds ++ [m % 60], _, _, _, by rw [upd_same, map_more], by simp [hn], dg_more hd ⟨by omega, by omega⟩, rfl⟩
    · rintro σ H' ⟨e, ds, m, v, w, hl, hn, hd, rfl⟩
      repeat walk_at "mst"
      exact q _ _ ⟨c, n, p, ds, rfl, rfl, hp, e, hl, by omega, hd⟩
  · repeat walk_at "mst"
    refine ⟨_, rfl, by omega, by omega, forK_range (fun i σ H' => Ex H H' ∧ ∃ (ds : List Int) (m : Int) (v : Option V), H' p = some (.lst (ds.map V.int)) ∧ ds.length = i ∧ (∀ d ∈ ds, 0 ≤ d ∧ d < 60) ∧ σ = [some (.int c), some (.int n), some (.ref p), v, some (.int m)]) ?_ ?_ ?_⟩
    · exact ⟨Evl.Ex.new hp, [], _, _, upd_same, rfl, by simp, rfl⟩
    · rintro i σ H' hi ⟨e, ds, m, v, hl, hn, hd, rfl⟩
      repeat walk_at "mst"
      · exact k_sizeL (by omega)
      repeat walk_at "mst"
      exact ⟨Evl.Ex.mut e hp, ds ++ [_], _, _, by rw [upd_same, map_more], by simp [hn], dg_more hd ⟨by omega, by omega⟩, rfl⟩
    · rintro σ H' ⟨e, ds, m, v, hl, hn, hd, rfl⟩
      repeat walk_at "mst"
      exact q _ _ ⟨c, n, p, ds, rfl, rfl, hp, e, hl, by omega, hd⟩
theorem use_digits {K : PySem.W.Frag} {H : Hp} {Q : VK} {E : XK} {c n : Int} (h : 0 ≤ n ∧ n ≤ 1000) (q : ∀ (p : Addr) (ds : List Int) (H' : Hp), H p = none → Ex H H' → H' p = some (.lst (ds.map V.int)) → (ds.length : Int) = n → (∀ d ∈ ds, 0 ≤ d ∧ d < 60) → Q (.ref p) H') : sp_law_digits K ([.int c, .int n] ++ []) H Q E := by
  refine ⟨⟨c, n, rfl, h.1, h.2⟩, ?_⟩
  rintro v H' ⟨c', n', p, ds, e, rfl, h1, h2, h3, h4, h5⟩
  cases e
  exact q p ds H' h1 h2 h3 h4 h5
def sp_law_pair (K : PySem.W.Frag) : Sp := spR (fun vs H => ∃ c s : Int, vs = [.int c, .int s])
  (fun vs H v H' => ∃ (p : Addr) (a b : Int), v = .ref p ∧ H p = none ∧ Ex H H' ∧ H' p = some (.tup [.int a, .int b]) ∧ (-1000000000000 ≤ a ∧ a ≤ 1000000000000) ∧ 0 ≤ b ∧ b ≤ 40)
abbrev N_law_pair : List Str := ["cell", "shape", "digits", "power", "most", "top", "size"]
def t_law_pair (K : PySem.W.Frag) (E : XK) : TS := (tSeq (tAsg (tCall (sp_law_digits K) [] E0 (tCons (tVar 1) (tCons (tC (.int 4)) tNil))) (gName 2)) (tSeq (tAsg (tOp rModI (tCB rIntI (tCons (tOp (rIxL K) (tVar 2) (tC (.int 0))) tNil)) (tC (.int 41))) (gName 3)) (tSeq (tAsg (tCB rMin2 (tCons (tOp rPowI (tC (.int 10)) (tC (.int 12))) (tCons (tOp rShlI (tC (.int 1)) (tOp rModI (tCB rIntI (tCons (tOp (rIxL K) (tVar 2) (tC (.int 1))) tNil)) (tC (.int 41)))) tNil))) (gName 4)) (tSeq (tAsg (tOp rSubI (tOp rModI (tCB rIntI (tCons (tVar 0) tNil)) (tOp rAddI (tOp rMulI (tC (.int 2)) (tVar 4)) (tC (.int 1)))) (tVar 4)) (gName 5)) (Evl.tCut (tIfS (tTest (tOp rEq (tOp rModI (tCB rIntI (tCons (tOp (rIxL K) (tVar 2) (tC (.int 2))) tNil)) (tC (.int 4))) (tC (.int 1)))) (tSeq (tAsg (tOp rShlI (tOp rShrI (tCB rAbsI (tCons (tVar 5) tNil)) (tOp rModI (tCB rIntI (tCons (tOp (rIxL K) (tVar 2) (tC (.int 3))) tNil)) (tC (.int 40)))) (tOp rModI (tCB rIntI (tCons (tOp (rIxL K) (tVar 2) (tC (.int 3))) tNil)) (tC (.int 40)))) (gName 6)) (tAsg (tIf (tTest (tOp rGtI (tVar 5) (tC (.int 0)))) (tVar 6) (tUn rNegI (tVar 6))) (gName 5))) tNext) (Evl.tCut (tIfS (tTest (tOp rEq (tOp rModI (tCB rIntI (tCons (tOp (rIxL K) (tVar 2) (tC (.int 2))) tNil)) (tC (.int 8))) (tC (.int 2)))) (tAsg (tOp (rIxL K) (tLst (tCons (tC (.int 0)) (tCons (tC (.int 1)) (tCons (tUn rNegI (tC (.int 1))) (tCons (tOp rPowI (tC (.int 10)) (tC (.int 12))) (tCons (tUn rNegI (tOp rPowI (tC (.int 10)) (tC (.int 12)))) (tCons (tOp rSubI (tOp rPowI (tC (.int 10)) (tC (.int 12))) (tC (.int 1))) (tCons (tOp rSubI (tC (.int 1)) (tOp rPowI (tC (.int 10)) (tC (.int 12)))) tNil)))))))) (tOp rModI (tCB rIntI (tCons (tOp (rIxL K) (tVar 2) (tC (.int 3))) tNil)) (tC (.int 7)))) (gName 5)) tNext) (tRet (tTup (tCons (tVar 5) (tCons (tVar 3) tNil))))))))))
theorem len_law_pair {K : PySem.W.Frag} {vs : List V} {H : Hp} {Q : VK} {E : XK} (h : sp_law_pair K vs H Q E) : vs.length = 2 := by
  obtain ⟨⟨_, _, rfl⟩, _⟩ := h; rfl
/-- an item of a list of digits -/
theorem dg_at {ds : List Int} (hd : ∀ d ∈ ds, 0 ≤ d ∧ d < 60) {k : Nat} (hk : k < ds.length) : ∃ z, atI (ds.map V.int) (k : Int) = some (.int z) ∧ 0 ≤ z ∧ z < 60 := by
  refine ⟨ds[k], atI_nat (by simp [hk]), hd _ (List.getElem_mem _)⟩
theorem shift_down (x : Int) (n : Nat) (h : 0 ≤ x) : 0 ≤ x / 2 ^ n * 2 ^ n ∧ x / 2 ^ n * 2 ^ n ≤ x := by
  have hp : (0 : Int) < 2 ^ n := Int.pow_pos (by decide)
  have h1 := Int.ediv_mul_le x (Int.ne_of_gt hp)
  have h2 : 0 ≤ x / 2 ^ n := Int.ediv_nonneg h (Int.le_of_lt hp)
  exact ⟨Int.mul_nonneg h2 (Int.le_of_lt hp), h1⟩
theorem pure_law_pair {K : PySem.W.Frag} (vs : List V) (H : Hp) (Q : VK) (E : XK) (h : sp_law_pair K vs H Q E) : t_law_pair K E { nx := fun _ H' => Q .non H', rt := Q } (start N_law_pair vs) H := by
  obtain ⟨⟨c, s, rfl⟩, q⟩ := h
  unfold t_law_pair
  repeat walk_at "mst"
  refine ⟨⟨s, 4, rfl, by decide, by decide⟩, ?_⟩
  rintro v H1 ⟨_, _, pd, ds, e, rfl, hpd, e1, hds, hn, hb⟩
  cases e
  have hn4 : ds.length = 4 := by omega
  obtain ⟨d0, a0, b0⟩ := dg_at hb (k := 0) (by omega)
  obtain ⟨d1, a1, b1⟩ := dg_at hb (k := 1) (by omega)
  obtain ⟨d2, a2, b2⟩ := dg_at hb (k := 2) (by omega)
  obtain ⟨d3, a3, b3⟩ := dg_at hb (k := 3) (by omega)
  repeat walk_at "mst"
  refine k_ixL (k_sq hds) a0 ?_
  repeat walk_at "mst"
  refine k_ixL (k_sq hds) a1 ?_
  repeat walk_at "mst"
  rename_i most hm1 hm2 hm3
  have hm0 : 1 ≤ most := by omega
  generalize hT : c % (2 * most + 1) - most = top
  have ht : -1000000000000 ≤ top ∧ top ≤ 1000000000000 := by
    have h1 := Int.emod_nonneg c (by omega : 2 * most + 1 ≠ 0)
    have h2 := Int.emod_lt_of_pos c (by omega : 0 < 2 * most + 1)
    omega
  clear hT
  refine k_cut (fun σ' H' => ∃ (top : Int) (z : Option V), (-1000000000000 ≤ top ∧ top ≤ 1000000000000) ∧ H1 = H' ∧ σ' = [some (.int c), some (.int s), some (.ref pd), some (.int (d0 % 41)), some (.int most), some (.int top), z]) ?_ ?_
  · repeat walk_at "mst"
    refine k_ixL (k_sq hds) a2 ?_
    repeat walk_at "mst"
    refine k_iteD (fun hc => ?_) (fun hc => ?_)
    · repeat walk_at "mst"
      refine k_ixL (k_sq hds) a3 ?_
      repeat walk_at "mst"
      refine k_ixL (k_sq hds) a3 ?_
      repeat walk_at "mst"
      have hA : 0 ≤ (if top < 0 then -top else top) ∧ (if top < 0 then -top else top) ≤ 1000000000000 := by split <;> omega
      generalize (if top < 0 then -top else top) = A at hA
      have hs := shift_down A (d3 % 40).toNat hA.1
      have hq : 0 ≤ A / 2 ^ (d3 % 40).toNat ∧ A / 2 ^ (d3 % 40).toNat ≤ A := ⟨Int.ediv_nonneg hA.1 (Int.le_of_lt (Int.pow_pos (by decide))), Int.ediv_le_self _ hA.1⟩
      refine k_I ⟨by omega, by omega, by omega⟩ ?_
      generalize A / 2 ^ (d3 % 40).toNat * 2 ^ (d3 % 40).toNat = B at hs
      repeat walk_at "mst"
      refine k_iteD (fun hc => ?_) (fun hc => ?_)
      · repeat walk_at "mst"
        exact ⟨B, _, by omega, rfl, rfl⟩
      · repeat walk_at "mst"
        exact ⟨-B, _, by omega, rfl, rfl⟩
    · repeat walk_at "mst"
      exact ⟨top, _, ht, rfl, rfl⟩
  · rintro σ' H' ⟨top, z, ht, rfl, rfl⟩
    refine k_cut (fun σ' H'' => ∃ (top : Int) (z : Option V), (-1000000000000 ≤ top ∧ top ≤ 1000000000000) ∧ Ex H1 H'' ∧ σ' = [some (.int c), some (.int s), some (.ref pd), some (.int (d0 % 41)), some (.int most), some (.int top), z]) ?_ ?_
    · repeat walk_at "mst"
      refine k_ixL (k_sq hds) a2 ?_
      repeat walk_at "mst"
      refine k_iteD (fun hc => ?_) (fun hc => ?_)
      · repeat walk_at "mst"
        refine ⟨by show 7 ≤ sizeLine; decide, fun l hl => ?_⟩
        repeat walk_at "mst"
        refine k_ixL (k_sq (by rw [upd_ne (ne_of_none hds hl)]; exact hds)) a3 ?_
        repeat walk_at "mst"
        obtain ⟨z7, hz7, hr⟩ : ∃ z7 : Int, atI [V.int 0, V.int 1, V.int (-1), V.int 1000000000000, V.int (-1000000000000), V.int (1000000000000 - 1), V.int (1 - 1000000000000)] (d3 % 7) = some (.int z7) ∧ -1000000000000 ≤ z7 ∧ z7 ≤ 1000000000000 := by
          have h7 : d3 % 7 = 0 ∨ d3 % 7 = 1 ∨ d3 % 7 = 2 ∨ d3 % 7 = 3 ∨ d3 % 7 = 4 ∨ d3 % 7 = 5 ∨ d3 % 7 = 6 := by omega
          rcases h7 with h | h | h | h | h | h | h <;> rw [h] <;> exact ⟨_, rfl, by decide, by decide⟩
        refine k_ixL (k_sq upd_same) hz7 ?_
        repeat walk_at "mst"
        exact ⟨z7, _, hr, Evl.Ex.new hl, rfl⟩
      · repeat walk_at "mst"
        exact ⟨top, _, ht, Evl.Ex.refl _, rfl⟩
    · rintro σ' H2 ⟨top, z, ht, e2, rfl⟩
      repeat walk_at "mst"
      refine ⟨two_le _ _, fun p hp => q _ _ ⟨p, top, d0 % 41, rfl, Evl.fresh_back (e1.trans e2) hp, (e1.trans e2).trans (Evl.Ex.new hp), upd_same, ht, by omega, by omega⟩⟩
theorem use_pair {K : PySem.W.Frag} {H : Hp} {Q : VK} {E : XK} {c n : Int} (q : ∀ p a b H', H p = none → Ex H H' → H' p = some (.tup [.int a, .int b]) → (-1000000000000 ≤ a ∧ a ≤ 1000000000000) → 0 ≤ b ∧ b ≤ 40 → Q (.ref p) H') : sp_law_pair K ([.int c, .int n] ++ []) H Q E := by
  refine ⟨⟨c, n, rfl⟩, ?_⟩
  rintro v H' ⟨p, a, b, rfl, h1, h2, h3, h4, h5⟩
  exact q p a b H' h1 h2 h3 h4 h5
def sp_law_cell (K : PySem.W.Frag) : Sp := fun vs H Q _ => ∃ (a : Addr) (ns : List Int) (k : Int), vs = [.ref a, .int k] ∧ SqL K H a (ns.map V.int) ∧ 0 ≤ k ∧ ∀ i, (i ∈ ns ∨ (0 ≤ i ∧ i < 2147483647) ∨ i = 104729 * k + 7) → Q (.int i) H
abbrev N_law_cell : List Str := ["script", "k", "mixed", "cell"]
def t_law_cell (K : PySem.W.Frag) (E : XK) : TS := (tSeq (tIfS (tTest (tOp rLtI (tVar 1) (tCB (rLenQ K) (tCons (tVar 0) tNil)))) (tRet (tOp (rIxL K) (tVar 0) (tVar 1))) tNext) (tSeq (tAsg (tOp rAddI (tOp rMulI (tC (.int 104729)) (tVar 1)) (tC (.int 7))) (gName 2)) (tSeq (tFor (iList K (tVar 0)) (gName 3) (tAsg (tOp rModI (tCB rIntI (tCons (tOp rAddI (tOp rMulI (tVar 2) (tC (.int 31))) (tVar 3)) tNil)) (tC (.int 2147483647))) (gName 2))) (tRet (tVar 2)))))
theorem len_law_cell {K : PySem.W.Frag} {vs : List V} {H : Hp} {Q : VK} {E : XK} (h : sp_law_cell K vs H Q E) : vs.length = 2 := by
  obtain ⟨_, _, _, rfl, _⟩ := h; rfl
theorem pure_law_cell {K : PySem.W.Frag} (vs : List V) (H : Hp) (Q : VK) (E : XK) (h : sp_law_cell K vs H Q E) : t_law_cell K E { nx := fun _ H' => Q .non H', rt := Q } (start N_law_cell vs) H := by
  obtain ⟨a, ns, k, rfl, hS, hk, q⟩ := h
  unfold t_law_cell
  repeat walk_at "mst"
  refine k_iteD (fun hc => ?_) (fun hc => ?_)
  · rw [List.length_map] at hc
    obtain ⟨z, mz, hz⟩ := at_int hk hc
    repeat walk_at "mst"
    exact k_ixL hS hz (q _ (Or.inl (List.mem_of_getElem? mz)))
  · repeat walk_at "mst"
    refine ⟨a, rfl, ⟨_, hS⟩, forK_list (xs := ns.map V.int) (fun i σ H' => H' = H ∧ ∃ (m : Int) (v : Option V), ((0 ≤ m ∧ m < 2147483647) ∨ m = 104729 * k + 7) ∧ σ = [some (.ref a), some (.int k), some (.int m), v]) ⟨rfl, _, _, Or.inr rfl, rfl⟩ ?_ ?_ ?_⟩
    · rintro i σ H' _ ⟨rfl, _⟩; exact hS
    · rintro i x σ H' hx ⟨rfl, m, v, _, rfl⟩
      obtain ⟨z, _, rfl⟩ := get_int hx
      repeat walk_at "mst"
      exact ⟨rfl, _, _, Or.inl ⟨by omega, by omega⟩, rfl⟩
    · rintro σ H' ⟨rfl, m, v, b, rfl⟩
      repeat walk_at "mst"
      exact q _ (Or.inr b)
theorem use_cellB {K : PySem.W.Frag} {H : Hp} {Q : VK} {E : XK} {a : Addr} {ns : List Int} {k : Int} (h : SqL K H a (ns.map V.int)) (h0 : 0 ≤ k) (q : ∀ i, (i ∈ ns ∨ (0 ≤ i ∧ i < 2147483647) ∨ i = 104729 * k + 7) → Q (.int i) H) : sp_law_cell K ([.ref a, .int k] ++ []) H Q E := ⟨a, ns, k, rfl, h, h0, q⟩
theorem use_cell {K : PySem.W.Frag} {H : Hp} {Q : VK} {E : XK} {a : Addr} {ns : List Int} {k : Int} (h : SqL K H a (ns.map V.int)) (h0 : 0 ≤ k) (q : ∀ i, Q (.int i) H) : sp_law_cell K ([.ref a, .int k] ++ []) H Q E := ⟨a, ns, k, rfl, h, h0, fun i _ => q i⟩
/-- a thing of a known kind: whether it is an int within bounds -/
def wholeV (x : V) (lo hi : Int) : Bool := match x with
  | .int i => decide (lo ≤ i) && decide (i ≤ hi)
  | _ => false
def sp_is_whole (K : PySem.W.Frag) : Sp := spR (fun vs H => ∃ (x : V) (T : String) (lo hi : Int), vs = [x, .int lo, .int hi] ∧ TyB K H x T)
  (fun vs H v H' => ∃ (x : V) (lo hi : Int), vs = [x, .int lo, .int hi] ∧ v = .bl (wholeV x lo hi) ∧ H' = H)
abbrev N_is_whole : List Str := ["thing", "least", "most"]
def t_is_whole (K : PySem.W.Frag) (E : XK) : TS := (tRet (tAndV (tOp rIsTy (tCB (rTyp K) (tCons (tVar 0) tNil)) (tC (.ty "int"))) (tChain rLeI rLeI (tVar 1) (tVar 0) (tVar 2))))
theorem len_is_whole {K : PySem.W.Frag} {vs : List V} {H : Hp} {Q : VK} {E : XK} (h : sp_is_whole K vs H Q E) : vs.length = 3 := by
  obtain ⟨⟨_, _, _, _, rfl, _⟩, _⟩ := h; rfl
theorem whole_ty {K : PySem.W.Frag} {H : Hp} {x : V} {T : String} (t : TyB K H x T) : (T = "int" ∧ ∃ i, x = .int i) ∨ (T ≠ "int" ∧ ∀ lo hi, wholeV x lo hi = false) := by
  cases t
  case int i => exact Or.inl ⟨rfl, i, rfl⟩
  all_goals exact Or.inr ⟨by decide, fun _ _ => rfl⟩
theorem pure_is_whole {K : PySem.W.Frag} (vs : List V) (H : Hp) (Q : VK) (E : XK) (h : sp_is_whole K vs H Q E) : t_is_whole K E { nx := fun _ H' => Q .non H', rt := Q } (start N_is_whole vs) H := by
  obtain ⟨⟨x, T, lo, hi, rfl, ht⟩, q⟩ := h
  unfold t_is_whole
  repeat walk_at "mst"
  refine ⟨x, T, rfl, ht, ?_⟩
  repeat walk_at "mst"
  rcases whole_ty ht with ⟨e, i, rfl⟩ | ⟨e, hf⟩
  · refine k_iteD (fun _ => ?_) (fun hn => absurd e hn)
    repeat walk_at "mst"
    refine k_iteD (fun h1 => ?_) (fun h1 => ?_)
    · repeat walk_at "mst"
      refine q _ _ ⟨_, lo, hi, rfl, ?_, rfl⟩
      show V.bl (decide (i ≤ hi)) = V.bl (decide (lo ≤ i) && decide (i ≤ hi))
      rw [decide_eq_true h1, Bool.true_and]
    · refine q _ _ ⟨_, lo, hi, rfl, ?_, rfl⟩
      show V.bl false = V.bl (decide (lo ≤ i) && decide (i ≤ hi))
      rw [decide_eq_false h1, Bool.false_and]
  · refine k_iteD (fun hy => absurd hy e) (fun _ => ?_)
    exact q _ _ ⟨x, lo, hi, rfl, by rw [hf], rfl⟩
def sp_plain (K : PySem.W.Frag) : Sp := spR (fun vs H => ∃ (a b : Int), vs = [.int a, .int b] ∧ 0 ≤ b)
  (fun vs H v H' => ∃ (a b : Int) (p : Addr), vs = [.int a, .int b] ∧ v = .ref p ∧ H p = none ∧ H' = upd H p (.tup [.int (plainZ a b.toNat).1, .int (plainZ a b.toNat).2]))
abbrev N_plain : List Str := ["top", "power"]
def t_plain (K : PySem.W.Frag) (E : XK) : TS := (tSeq (tWhile (tAnd (tTest (tOp rGtI (tVar 1) (tC (.int 0)))) (tTest (tOp rEq (tOp rAndI (tVar 0) (tC (.int 1))) (tC (.int 0))))) (tSeq (tAsg (tOp rShrI (tVar 0) (tC (.int 1))) (gName 0)) (tAsg (tOp rSubI (tVar 1) (tC (.int 1))) (gName 1)))) (tRet (tTup (tCons (tVar 0) (tCons (tVar 1) tNil)))))
theorem len_plain {K : PySem.W.Frag} {vs : List V} {H : Hp} {Q : VK} {E : XK} (h : sp_plain K vs H Q E) : vs.length = 2 := by
  obtain ⟨⟨_, _, rfl, _⟩, _⟩ := h; rfl
theorem pure_plain {K : PySem.W.Frag} (vs : List V) (H : Hp) (Q : VK) (E : XK) (h : sp_plain K vs H Q E) : t_plain K E { nx := fun _ H' => Q .non H', rt := Q } (start N_plain vs) H := by
  obtain ⟨⟨a, b, rfl, h0⟩, q⟩ := h
  unfold t_plain
  repeat walk_at "mst"
  refine k_while (fun m σ H' => H' = H ∧ ∃ (x y : Int), σ = [some (.int x), some (.int y)] ∧ y.toNat = m ∧ 0 ≤ y ∧ plainZ x y.toNat = plainZ a b.toNat) b.toNat ⟨rfl, a, b, rfl, rfl, h0, rfl⟩ ?_
  rintro m σ H' ⟨rfl, x, y, rfl, hm, hy, e⟩
  repeat walk_at "mst"
  refine k_iteD (fun hc => ?_) (fun hc => ?_)
  · repeat walk_at "mst"
    have s1 : (y - 1).toNat + 1 = y.toNat := by omega
    refine k_iteD (fun hd => ?_) (fun hd => ?_)
    · repeat walk_at "mst"
      refine ⟨fun σ2 H2 => ∃ m', m' < m ∧ (H2 = H' ∧ ∃ (x y : Int), σ2 = [some (.int x), some (.int y)] ∧ y.toNat = m' ∧ 0 ≤ y ∧ plainZ x y.toNat = plainZ a b.toNat), fun _ _ z => z, ?_⟩
      repeat walk_at "mst"
      rw [bitAnd_one] at hd
      refine ⟨(y - 1).toNat, by omega, rfl, x / 2, y - 1, rfl, rfl, by omega, ?_⟩
      rw [← e, ← s1, plainZ_even hd]
    · repeat walk_at "mst"
      rw [bitAnd_one] at hd
      refine ⟨two_le _ _, fun p hp => q _ _ ⟨a, b, p, rfl, rfl, hp, ?_⟩⟩
      have e2 : plainZ x y.toNat = (x, y) := by
        rw [← s1, plainZ_odd hd]
        congr 1; omega
      rw [← e, e2]
  · repeat walk_at "mst"
    refine ⟨two_le _ _, fun p hp => q _ _ ⟨a, b, p, rfl, rfl, hp, ?_⟩⟩
    have s1 : y.toNat = 0 := by omega
    have e2 : plainZ x y.toNat = (x, y) := by
      rw [s1, plainZ_zero]
      congr 1; omega
    rw [← e, e2]
def sp_Dyadic_d_init (K : PySem.W.Frag) : Sp := spX (fun vs H => ∃ (p dx : Addr) (x y : V) (T U : String), vs = [.ref p, x, y] ∧ H p = some (.ins (He.ga K "Dyadic") dx []) ∧ TyB K H x T ∧ TyB K H y U)
  (fun vs H v H' => ∃ (p dx : Addr) (a b : Int), vs = [.ref p, .int a, .int b] ∧ okTop a b ∧ v = .non ∧ (∀ c o, H c = some o → c ≠ p → H' c = some o) ∧ ∀ dx, H p = some (.ins (He.ga K "Dyadic") dx []) → H' p = some (.ins (He.ga K "Dyadic") dx (dfs (plainZ a b.toNat).1 (plainZ a b.toNat).2)))
  (fun vs H c d H' => ∃ (p : V) (x y : V), vs = [p, x, y] ∧ (¬ ∃ a b, x = .int a ∧ y = .int b ∧ okTop a b) ∧ c = .ref (He.ga K "BadValue") ∧ d = none ∧ H' = H)
abbrev N_Dyadic_d_init : List Str := ["self", "top", "power"]
def t_Dyadic_d_init (K : PySem.W.Frag) (E : XK) : TS := (tSeq (tIfS (tNot (tB (tCall (sp_is_whole K) [] E0 (tCons (tVar 1) (tCons (tUn rNegI (tC (.int 1000000000000))) (tCons (tC (.int 1000000000000)) tNil)))))) (tRaise E (.ref (He.ga K "BadValue"))) tNext) (tSeq (tIfS (tNot (tB (tCall (sp_is_whole K) [] E0 (tCons (tVar 2) (tCons (tC (.int 0)) (tCons (tC (.int 40)) tNil)))))) (tRaise E (.ref (He.ga K "BadValue"))) tNext) (tAsg (tCall (sp_plain K) [] E0 (tCons (tVar 1) (tCons (tVar 2) tNil))) (gTup K 2 (gCons (gFld K (tVar 0) "_top") (gCons (gFld K (tVar 0) "_power") gNil))))))
theorem len_Dyadic_d_init {K : PySem.W.Frag} {vs : List V} {H : Hp} {Q : VK} {E : XK} (h : sp_Dyadic_d_init K vs H Q E) : vs.length = 3 := by
  obtain ⟨⟨_, _, _, _, _, _, rfl, _⟩, _⟩ := h; rfl
theorem whole_int {x : V} {lo hi : Int} (h : wholeV x lo hi = true) : ∃ i, x = .int i ∧ lo ≤ i ∧ i ≤ hi := by
  cases x
  case int i =>
    have h' : (decide (lo ≤ i) && decide (i ≤ hi)) = true := h
    rw [Bool.and_eq_true, decide_eq_true_eq, decide_eq_true_eq] at h'
    exact ⟨i, rfl, h'.1, h'.2⟩
  all_goals cases h
theorem whole_no {i lo hi : Int} (h : wholeV (.int i) lo hi = false) : ¬ (lo ≤ i ∧ i ≤ hi) := by
  have h' : (decide (lo ≤ i) && decide (i ≤ hi)) = false := h
  rw [Bool.and_eq_false_iff, decide_eq_false_iff_not, decide_eq_false_iff_not] at h'
  rintro ⟨h1, h2⟩
  rcases h' with h' | h'
  · exact h' h1
  · exact h' h2
theorem pure_Dyadic_d_init {K : PySem.W.Frag} (F : FDyadic K) (vs : List V) (H : Hp) (Q : VK) (E : XK) (h : sp_Dyadic_d_init K vs H Q E) : t_Dyadic_d_init K E { nx := fun _ H' => Q .non H', rt := Q } (start N_Dyadic_d_init vs) H := by
  obtain ⟨⟨p, dx, x, y, T, U, rfl, hp, tx, ty⟩, q, r⟩ := h
  unfold t_Dyadic_d_init
  repeat walk_at "mst"
  refine ⟨⟨x, T, _, _, rfl, tx⟩, ?_⟩
  rintro v H1 ⟨x', lo, hi, e, rfl, rfl⟩
  cases e
  repeat walk_at "mst"
  cases hx : wholeV x (-1000000000000) 1000000000000
  · repeat walk_at "mst"
    refine r _ _ _ ⟨_, x, y, rfl, ?_, rfl, rfl, rfl⟩
    rintro ⟨a, b, rfl, rfl, ok⟩
    exact whole_no hx ok.1
  · repeat walk_at "mst"
    refine ⟨⟨y, U, _, _, rfl, ty⟩, ?_⟩
    rintro v H1 ⟨x', lo, hi, e, rfl, rfl⟩
    cases e
    repeat walk_at "mst"
    cases hy : wholeV y 0 40
    · repeat walk_at "mst"
      refine r _ _ _ ⟨_, x, y, rfl, ?_, rfl, rfl, rfl⟩
      rintro ⟨a, b, rfl, rfl, ok⟩
      exact whole_no hy ok.2
    · repeat walk_at "mst"
      obtain ⟨a, rfl, a1, a2⟩ := whole_int hx
      obtain ⟨b, rfl, b1, b2⟩ := whole_int hy
      refine ⟨⟨a, b, rfl, b1⟩, ?_⟩
      rintro v H2 ⟨a', b', t, e, rfl, ht, rfl⟩
      cases e
      have npt : p ≠ t := ne_of_none hp ht
      refine k_gtup (k_st upd_same) rfl ?_
      repeat walk_at "mst"
      refine k_gfld rfl (by rw [upd_ne npt]; exact hp) F.cl F.nt (by show 0 < 1000; decide) ?_
      repeat walk_at "mst"
      refine k_gfld rfl upd_same F.cl F.np (by show 1 < 1000; decide) ?_
      repeat walk_at "mst"
      refine q _ _ ⟨p, dx, a, b, rfl, ⟨⟨a1, a2⟩, b1, b2⟩, rfl, ?_, ?_⟩
      · intro c o hc hne
        rw [upd_ne hne, upd_ne hne, upd_ne (ne_of_none hc ht)]
        exact hc
      · intro dx' h'
        have e : HO.ins (He.ga K "Dyadic") dx [] = HO.ins (He.ga K "Dyadic") dx' [] := Option.some.inj (hp.symm.trans h')
        injection e with _ e _
        subst e
        exact upd_same
/-- a Dyadic is made -/
theorem mk_dy {K : PySem.W.Frag} {H : Hp} {Q : Addr → Hp → Prop} {E : XK} {a b : Int} (ok : okTop a b) (k : ∀ x H', H x = none → Ex H H' → DyAt K H' x (plainZ a b.toNat).1 (plainZ a b.toNat).2 → Q x H') :
    ∀ x dx, H x = none → H dx = none → dx ≠ x → sp_Dyadic_d_init K (.ref x :: ([.int a, .int b] ++ [])) (upd (upd H dx (.own x)) x (.ins (He.ga K "Dyadic") dx [])) (fun v H2 => v = .non ∧ Q x H2) E := by
  intro x dx hx hd hne
  refine ⟨⟨x, dx, _, _, _, _, rfl, upd_same, .int a, .int b⟩, ?_, ?_⟩
  · rintro v H' ⟨p, dx', a', b', e, _, rfl, fr, me⟩
    cases e
    refine ⟨rfl, k x H' hx (fun c o hc => ?_) ⟨dx, me dx upd_same⟩⟩
    have h1 : c ≠ x := ne_of_none hc hx
    refine fr c o ?_ h1
    rw [upd_ne h1, upd_ne (ne_of_none hc hd)]
    exact hc
  · rintro c d H' ⟨p, x', y', e, no, _⟩
    cases e
    exact absurd ⟨a, b, rfl, rfl, ok⟩ no
theorem mk_dy1 {K : PySem.W.Frag} {H : Hp} {Q : Addr → Hp → Prop} {E : XK} {a : Int} (ok : -1000000000000 ≤ a ∧ a ≤ 1000000000000) (k : ∀ x H', H x = none → Ex H H' → DyAt K H' x a 0 → Q x H') :
    ∀ x dx, H x = none → H dx = none → dx ≠ x → sp_Dyadic_d_init K (.ref x :: ([.int a] ++ [.int 0])) (upd (upd H dx (.own x)) x (.ins (He.ga K "Dyadic") dx [])) (fun v H2 => v = .non ∧ Q x H2) E :=
  mk_dy (a := a) (b := 0) ⟨ok, by decide, by decide⟩ k
open SX (S)
def sp_Dyadic_m_text (K : PySem.W.Frag) : Sp := fun vs H Q _ => ∃ (a : Addr) (t p : Int), vs = [.ref a] ∧ DyAt K H a t p ∧ okTop t p ∧ Q (.str (S (txtL t p))) H
local macro_rules | `(tactic| walk_at "mst") => `(tactic| first
  | with_reducible refine k_isiSS ?_
  | with_reducible refine k_typS ?_
  | with_reducible refine k_NT ?_
  | with_reducible refine k_tys ?_
  | with_reducible refine k_eqS ?_
  | with_reducible refine k_neS ?_
  | with_reducible refine k_inS ?_
  | with_reducible refine k_truS ?_)
abbrev N_Dyadic_m_text : List Str := ["self"]
def t_Dyadic_m_text (K : PySem.W.Frag) (E : XK) : TS := (tSeq (tIfS (tTest (tOp rEq (tFld K (tVar 0) "_power") (tC (.int 0)))) (tRet (tCB rStrI (tCons (tFld K (tVar 0) "_top") tNil))) tNext) (tRet (tJoin [(tFmt (tFld K (tVar 0) "_top")), (tC (.str "/")), (tFmt (tOp rShlI (tC (.int 1)) (tFld K (tVar 0) "_power")))])))
theorem len_Dyadic_m_text {K : PySem.W.Frag} {vs : List V} {H : Hp} {Q : VK} {E : XK} (h : sp_Dyadic_m_text K vs H Q E) : vs.length = 1 := by
  obtain ⟨_, _, _, rfl, _⟩ := h; rfl
theorem pure_Dyadic_m_text {K : PySem.W.Frag} (F : FDyadic K) (vs : List V) (H : Hp) (Q : VK) (E : XK) (h : sp_Dyadic_m_text K vs H Q E) : t_Dyadic_m_text K E { nx := fun _ H' => Q .non H', rt := Q } (start N_Dyadic_m_text vs) H := by
  obtain ⟨a, t, p, rfl, hA, ok, q⟩ := h
  obtain ⟨dx, ha⟩ := id hA
  have ok1 := ok.1
  have ok2 := ok.2
  unfold t_Dyadic_m_text
  repeat walk_at "mst"
  refine k_iteD (fun hp => ?_) (fun hp => ?_)
  · repeat walk_at "mst"
    refine k_strI ⟨by omega, by omega⟩ ?_
    have e : txtL t p = intL t := by unfold txtL; rw [if_pos hp]
    rw [← e]; exact q
  · repeat walk_at "mst"
    simp only [tJoin, tJs, tFmt]
    repeat walk_at "mst"
    refine Or.inr ⟨t, rfl, log_ok ⟨by omega, by omega⟩, _, rfl, ?_, ?_⟩
    · rw [int_S]
      show (Str.empty ++ S (intL t)).length ≤ sizeLine
      have := intL_len ok1
      rw [show Str.empty = S [] from rfl, SX.S_cat, SX.S_len]; exact line_ok (by simp; omega)
    · repeat walk_at "mst"
      have l1 := intL_len ok1
      have l2 := pw_len ok2
      have e0 : ((Str.empty ++ Str.ofString (toString t)) ++ ("/" : Str)) = S (intL t ++ [47]) := by
        rw [int_S, slash_S, show Str.empty = S [] from rfl, SX.S_cat, SX.S_cat]; rfl
      refine ⟨_, rfl, ?_, ?_⟩
      · rw [e0, SX.S_len]; exact line_ok (by simp; omega)
      · rw [e0]
        repeat walk_at "mst"
        rename_i m hm1 hm2
        obtain ⟨c1, c2, c3⟩ := pw_ok ok2
        rw [Int.one_mul] at c1
        rw [c1] at hm2
        subst hm2
        refine Or.inr ⟨_, rfl, log_ok ⟨by omega, by omega⟩, _, rfl, ?_, ?_⟩
        all_goals rw [SX.num_S, SX.S_cat]
        · rw [SX.S_len]; exact line_ok (by simp; omega)
        · have e : txtL t p = intL t ++ [47] ++ TL.numL (2 ^ p.toNat) := by unfold txtL; rw [if_neg hp]; simp
          rw [← e]; exact q
theorem use_text {K : PySem.W.Frag} {H : Hp} {Q : VK} {E : XK} {a : Addr} {t p : Int} (hA : DyAt K H a t p) (ok : okTop t p) (q : Q (.str (S (txtL t p))) H) : sp_Dyadic_m_text K (.ref a :: ([] ++ [])) H Q E := ⟨a, t, p, rfl, hA, ok, q⟩
def sp_law_plain (K : PySem.W.Frag) : Sp := spR (fun vs H => ∃ (a b : Int), vs = [.int a, .int b] ∧ 0 ≤ b ∧ b ≤ 64)
  (fun vs H v H' => ∃ (a b : Int) (p : Addr), vs = [.int a, .int b] ∧ v = .ref p ∧ H p = none ∧ H' = upd H p (.tup [.int (plainZ a b.toNat).1, .int (plainZ a b.toNat).2]))
abbrev N_law_plain : List Str := ["top", "power", "k"]
def t_law_plain (K : PySem.W.Frag) (E : XK) : TS := (tSeq (tFor (iRng1 (tCons (tC (.int 64)) tNil)) (gName 2) (tIfS (tAnd (tTest (tOp rGtI (tVar 1) (tC (.int 0)))) (tTest (tOp rEq (tOp rModI (tCB rIntI (tCons (tVar 0) tNil)) (tC (.int 2))) (tC (.int 0))))) (tSeq (tAsg (tOp rDivI (tVar 0) (tC (.int 2))) (gName 0)) (tAsg (tOp rSubI (tVar 1) (tC (.int 1))) (gName 1))) tNext)) (tRet (tTup (tCons (tVar 0) (tCons (tVar 1) tNil)))))
theorem len_law_plain {K : PySem.W.Frag} {vs : List V} {H : Hp} {Q : VK} {E : XK} (h : sp_law_plain K vs H Q E) : vs.length = 2 := by
  obtain ⟨⟨_, _, rfl, _⟩, _⟩ := h; rfl
theorem pure_law_plain {K : PySem.W.Frag} (vs : List V) (H : Hp) (Q : VK) (E : XK) (h : sp_law_plain K vs H Q E) : t_law_plain K E { nx := fun _ H' => Q .non H', rt := Q } (start N_law_plain vs) H := by
  obtain ⟨⟨a, b, rfl, h0, h1⟩, q⟩ := h
  unfold t_law_plain
  repeat walk_at "mst"
  refine ⟨_, rfl, by omega, by omega, forK_range (fun i σ H' => H' = H ∧ ∃ (x y : Int) (v : Option V), σ = [some (.int x), some (.int y), v] ∧ 0 ≤ y ∧ y ≤ 64 ∧ plainZ x y.toNat = plainZ a b.toNat ∧ (y + i ≤ 64 ∨ plainZ x y.toNat = (x, y))) ?_ ?_ ?_⟩
  · exact ⟨rfl, a, b, none, rfl, h0, h1, rfl, by omega⟩
  · rintro i σ H' hi ⟨rfl, x, y, v, rfl, hy, hy2, e, hm⟩
    repeat walk_at "mst"
    refine k_iteD (fun hc => ?_) (fun hc => ?_)
    · repeat walk_at "mst"
      refine k_iteD (fun hd => ?_) (fun hd => ?_)
      · repeat walk_at "mst"
        have s1 : (y - 1).toNat + 1 = y.toNat := by omega
        have e1 : plainZ x y.toNat = plainZ (x / 2) (y - 1).toNat := by
          rw [← s1, plainZ_even hd]
        refine ⟨rfl, x / 2, y - 1, _, rfl, by omega, by omega, e1.symm.trans e, ?_⟩
        rcases hm with hm | hm
        · left; omega
        · exfalso
          have z := plainZ_le (x / 2) (y - 1).toNat
          rw [← e1, hm] at z
          simp only at z; omega
      · repeat walk_at "mst"
        refine ⟨rfl, x, y, _, rfl, hy, hy2, e, Or.inr ?_⟩
        have s1 : (y - 1).toNat + 1 = y.toNat := by omega
        rw [← s1, plainZ_odd hd]
        congr 1; omega
    · repeat walk_at "mst"
      refine ⟨rfl, x, y, _, rfl, hy, hy2, e, Or.inr ?_⟩
      have s1 : y.toNat = 0 := by omega
      rw [s1, plainZ_zero]
      congr 1; omega
  · rintro σ H' ⟨rfl, x, y, v, rfl, hy, hy2, e, hm⟩
    repeat walk_at "mst"
    refine ⟨two_le _ _, fun p hp => q _ _ ⟨a, b, p, rfl, rfl, hp, ?_⟩⟩
    have e2 : plainZ a b.toNat = (x, y) := by
      rw [← e]
      rcases hm with hm | hm
      · have : y.toNat = 0 := by omega
        rw [this, plainZ_zero]; congr 1; omega
      · exact hm
    rw [e2]
theorem use_plain {K : PySem.W.Frag} {H : Hp} {Q : VK} {E : XK} {a b : Int} (h : 0 ≤ b ∧ b ≤ 64) (q : ∀ p, H p = none → Q (.ref p) (upd H p (.tup [.int (plainZ a b.toNat).1, .int (plainZ a b.toNat).2]))) : sp_law_plain K ([.int a, .int b] ++ []) H Q E := by
  refine ⟨⟨a, b, rfl, h.1, h.2⟩, ?_⟩
  rintro v H' ⟨a', b', p, e, rfl, h1, rfl⟩
  cases e
  exact q p h1
open SX (S)
def sp_law_text (K : PySem.W.Frag) : Sp := fun vs H Q _ => ∃ (x y : Int), vs = [.int x, .int y] ∧ okTop x y ∧ ∀ H', Ex H H' → Q (.str (S (txtL (plainZ x y.toNat).1 (plainZ x y.toNat).2))) H'
local macro_rules | `(tactic| walk_at "mst") => `(tactic| first
  | with_reducible refine k_isiSS ?_
  | with_reducible refine k_typS ?_
  | with_reducible refine k_NT ?_
  | with_reducible refine k_tys ?_
  | with_reducible refine k_eqS ?_
  | with_reducible refine k_neS ?_
  | with_reducible refine k_inS ?_
  | with_reducible refine k_truS ?_)
abbrev N_law_text : List Str := ["top", "power", "plain"]
def t_law_text (K : PySem.W.Frag) (E : XK) : TS := (tSeq (tAsg (tCall (sp_law_plain K) [] E0 (tCons (tVar 0) (tCons (tVar 1) tNil))) (gName 2)) (tSeq (tIfS (tTest (tOp rEq (tOp (rIxT K) (tVar 2) (tC (.int 1))) (tC (.int 0)))) (tRet (tCB rStrI (tCons (tOp (rIxT K) (tVar 2) (tC (.int 0))) tNil))) tNext) (tRet (tOp rCatS (tOp rCatS (tCB rStrI (tCons (tOp (rIxT K) (tVar 2) (tC (.int 0))) tNil)) (tC (.str "/"))) (tCB rStrI (tCons (tOp rShlI (tC (.int 1)) (tOp (rIxT K) (tVar 2) (tC (.int 1)))) tNil))))))
theorem len_law_text {K : PySem.W.Frag} {vs : List V} {H : Hp} {Q : VK} {E : XK} (h : sp_law_text K vs H Q E) : vs.length = 2 := by
  obtain ⟨_, _, rfl, _⟩ := h; rfl
theorem pure_law_text {K : PySem.W.Frag} (vs : List V) (H : Hp) (Q : VK) (E : XK) (h : sp_law_text K vs H Q E) : t_law_text K E { nx := fun _ H' => Q .non H', rt := Q } (start N_law_text vs) H := by
  obtain ⟨x, y, rfl, ok, q⟩ := h
  obtain ⟨ok1, ok2⟩ := okTop_pl ok
  have y1 := ok.2
  unfold t_law_text
  rw [slash_S]
  repeat walk_at "mst"
  refine use_plain ⟨y1.1, by omega⟩ fun P hP => ?_
  generalize (plainZ x y.toNat).1 = t at *
  generalize (plainZ x y.toNat).2 = p at *
  have sP : (upd H P (HO.tup [V.int t, V.int p])) P = some (HO.tup [V.int t, V.int p]) := upd_same
  have e1 := Evl.Ex.new (o := HO.tup [V.int t, V.int p]) hP
  generalize (upd H P (HO.tup [V.int t, V.int p])) = H1 at *
  have l1 := intL_len ok1
  have l2 := pw_len ok2
  repeat walk_at "mst"
  refine k_iteD (fun hp => ?_) (fun hp => ?_)
  · repeat walk_at "mst"
    refine k_strI ⟨by omega, by omega⟩ ?_
    have e : txtL t p = intL t := by unfold txtL; rw [if_pos hp]
    rw [← e]; exact q _ e1
  · repeat walk_at "mst"
    refine k_strI ⟨by omega, by omega⟩ ?_
    repeat walk_at "mst"
    refine k_catS (by simp; omega) ?_
    repeat walk_at "mst"
    rename_i m hm1 hm2
    obtain ⟨c1, c2, c3⟩ := pw_ok ok2
    rw [Int.one_mul] at c1
    rw [c1] at hm2
    subst hm2
    refine k_strI ⟨by omega, by omega⟩ ?_
    have ei : intL ((2 ^ p.toNat : Nat) : Int) = TL.numL (2 ^ p.toNat) := by
      unfold intL
      rw [if_neg (by omega)]; rfl
    rw [ei]
    refine k_catS (by simp; omega) ?_
    have e : txtL t p = intL t ++ [47] ++ TL.numL (2 ^ p.toNat) := by unfold txtL; rw [if_neg hp]; simp
    rw [← e]; exact q _ e1
theorem use_ltext {K : PySem.W.Frag} {H : Hp} {Q : VK} {E : XK} {x y : Int} (ok : okTop x y) (q : ∀ H', Ex H H' → Q (.str (S (txtL (plainZ x y.toNat).1 (plainZ x y.toNat).2))) H') : sp_law_text K ([.int x, .int y] ++ []) H Q E := ⟨x, y, rfl, ok, q⟩
open SX (S)
def sp_are_digits (K : PySem.W.Frag) : Sp := fun vs H Q _ => ∃ l : List Nat, vs = [.str (S l)] ∧ l ≠ [] ∧ (∀ c ∈ l, 48 ≤ c ∧ c ≤ 57) ∧ l.length ≤ 500 ∧ ∀ H', Ex H H' → Q (.bl true) H'
local macro_rules | `(tactic| walk_at "mst") => `(tactic| first
  | with_reducible refine k_isiSS ?_
  | with_reducible refine k_typS ?_
  | with_reducible refine k_NT ?_
  | with_reducible refine k_tys ?_
  | with_reducible refine k_eqS ?_
  | with_reducible refine k_neS ?_
  | with_reducible refine k_inS ?_
  | with_reducible refine k_truS ?_)
abbrev N_are_digits : List Str := ["text", "sign"]
def t_are_digits (K : PySem.W.Frag) (E : XK) : TS := (tRet (tAndV (tOp rNe (tVar 0) (tC (.str ""))) (tCB (rAll K) (tCons (tLc (iStr (tVar 0)) (gName 1) tYes (tOp rInS (tVar 1) (tC (.str "0123456789"))) [1]) tNil))))
theorem len_are_digits {K : PySem.W.Frag} {vs : List V} {H : Hp} {Q : VK} {E : XK} (h : sp_are_digits K vs H Q E) : vs.length = 1 := by
  obtain ⟨_, rfl, _⟩ := h; rfl
theorem pure_are_digits {K : PySem.W.Frag} (vs : List V) (H : Hp) (Q : VK) (E : XK) (h : sp_are_digits K vs H Q E) : t_are_digits K E { nx := fun _ H' => Q .non H', rt := Q } (start N_are_digits vs) H := by
  obtain ⟨l, rfl, hne, hd, hl, q⟩ := h
  unfold t_are_digits
  rw [empty_S, digits_S]
  repeat walk_at "mst"
  refine k_iteN (fun _ => ?_) (fun h => absurd h hne)
  repeat walk_at "mst"
  refine ⟨_, rfl, S l, rfl, fun D hD => lc_txt (l := l) (fun i H' => H' = upd H D (.lst ((List.replicate i true).map V.bl))) rfl ?_ ?_⟩
  · rintro i c H' hi rfl
    have hc := hd c (List.mem_of_getElem? hi)
    have hil : i < l.length := by
      rcases Nat.lt_or_ge i l.length with h | h
      · exact h
      · rw [List.getElem?_eq_none h] at hi; cases hi
    repeat walk_at "mst"
    refine ⟨rfl, ?_⟩
    unfold tYes
    refine k_iteT ?_
    repeat walk_at "mst"
    refine ⟨_, upd_same, by rw [List.length_map, List.length_replicate]; exact Nat.lt_of_lt_of_le (by omega : i < 600) (line_ok (Nat.le_refl _)), ?_⟩
    have e : decide (c ∈ [48, 49, 50, 51, 52, 53, 54, 55, 56, 57]) = true := decide_eq_true (by simp; omega)
    rw [e, upd_upd, List.replicate_succ', List.map_append]
    rfl
  · rintro H' rfl
    refine k_nil ?_
    refine k_all (k_sq upd_same) ?_
    have e : (List.replicate l.length true).all id = true := by simp
    rw [e]
    exact q _ (Evl.Ex.new hD)
theorem use_digs {K : PySem.W.Frag} {H : Hp} {Q : VK} {E : XK} {l : List Nat} (hne : l ≠ []) (hd : ∀ c ∈ l, 48 ≤ c ∧ c ≤ 57) (hl : l.length ≤ 500) (q : ∀ H', Ex H H' → Q (.bl true) H') : sp_are_digits K ([.str (S l)] ++ []) H Q E := ⟨l, rfl, hne, hd, hl, q⟩
open SX (S)
def sp_read_top (K : PySem.W.Frag) : Sp := fun vs H Q _ => ∃ t : Int, vs = [.str (S (intL t))] ∧ (-1000000000000 ≤ t ∧ t ≤ 1000000000000) ∧ ∀ H', Ex H H' → Q (.int t) H'
local macro_rules | `(tactic| walk_at "mst") => `(tactic| first
  | with_reducible refine k_isiSS ?_
  | with_reducible refine k_typS ?_
  | with_reducible refine k_NT ?_
  | with_reducible refine k_tys ?_
  | with_reducible refine k_eqS ?_
  | with_reducible refine k_neS ?_
  | with_reducible refine k_inS ?_
  | with_reducible refine k_truS ?_)
abbrev N_read_top : List Str := ["text", "digits", "top"]
def t_read_top (K : PySem.W.Frag) (E : XK) : TS := (tSeq (tAsg (tBM K "str" rRmPre (tVar 0) (tCons (tC (.str "-")) tNil)) (gName 1)) (tSeq (tIfS (tOr (tTest (tOp rGtI (tCB rLenS (tCons (tVar 0) tNil)) (tC (.int 14)))) (tNot (tB (tCall (sp_are_digits K) [] E0 (tCons (tVar 1) tNil))))) (tRet (tC .non)) tNext) (tSeq (tAsg (tCB rIntS (tCons (tVar 0) tNil)) (gName 2)) (tRet (tIf (tB (tCall (sp_is_whole K) [] E0 (tCons (tVar 2) (tCons (tUn rNegI (tC (.int 1000000000000))) (tCons (tC (.int 1000000000000)) tNil))))) (tVar 2) (tC .non))))))
theorem len_read_top {K : PySem.W.Frag} {vs : List V} {H : Hp} {Q : VK} {E : XK} (h : sp_read_top K vs H Q E) : vs.length = 1 := by
  obtain ⟨_, rfl, _⟩ := h; rfl
theorem pure_read_top {K : PySem.W.Frag} (vs : List V) (H : Hp) (Q : VK) (E : XK) (h : sp_read_top K vs H Q E) : t_read_top K E { nx := fun _ H' => Q .non H', rt := Q } (start N_read_top vs) H := by
  obtain ⟨t, rfl, ⟨t1, t2⟩, q⟩ := h
  have l1 := intL_len ⟨t1, t2⟩
  have l2 : (TL.numL t.natAbs).length ≤ 14 := numL_small (by decide) (by omega)
  unfold t_read_top
  rw [minus_S]
  repeat walk_at "mst"
  refine k_rm (by omega) ?_
  rw [rm_intL]
  repeat walk_at "mst"
  refine k_lenS (by omega) ?_
  repeat walk_at "mst"
  refine k_iteD (fun h => by omega) (fun _ => ?_)
  repeat walk_at "mst"
  refine use_digs (TL.numL_ne _) (TL.numL_digits _) (by omega) fun H1 e1 => ?_
  repeat walk_at "mst"
  refine k_intS (intL_int ⟨t1, t2⟩) (by omega) ?_
  repeat walk_at "mst"
  refine ⟨⟨_, _, _, _, rfl, .int t⟩, ?_⟩
  rintro v H2 ⟨x', lo, hi, e, rfl, rfl⟩
  cases e
  have w : wholeV (.int t) (-1000000000000) 1000000000000 = true := by
    show (decide _ && decide _) = true
    rw [decide_eq_true t1, decide_eq_true t2]; rfl
  rw [w]
  repeat walk_at "mst"
  exact q _ e1
theorem use_rtop {K : PySem.W.Frag} {H : Hp} {Q : VK} {E : XK} {t : Int} (h : -1000000000000 ≤ t ∧ t ≤ 1000000000000) (q : ∀ H', Ex H H' → Q (.int t) H') : sp_read_top K ([.str (S (intL t))] ++ []) H Q E := ⟨t, rfl, h, q⟩
open SX (S)
def sp_read_power (K : PySem.W.Frag) : Sp := fun vs H Q _ => ∃ n : Nat, vs = [.str (S (TL.numL (2 ^ n)))] ∧ 1 ≤ n ∧ n ≤ 40 ∧ Q (.int n) H
local macro_rules | `(tactic| walk_at "mst") => `(tactic| first
  | with_reducible refine k_isiSS ?_
  | with_reducible refine k_typS ?_
  | with_reducible refine k_NT ?_
  | with_reducible refine k_tys ?_
  | with_reducible refine k_eqS ?_
  | with_reducible refine k_neS ?_
  | with_reducible refine k_inS ?_
  | with_reducible refine k_truS ?_)
abbrev N_read_power : List Str := ["text", "power"]
def t_read_power (K : PySem.W.Frag) (E : XK) : TS := (tSeq (tFor (iRng2 (tCons (tC (.int 1)) (tCons (tOp rAddI (tC (.int 40)) (tC (.int 1))) tNil))) (gName 1) (tIfS (tTest (tOp rEq (tCB rStrI (tCons (tOp rShlI (tC (.int 1)) (tVar 1)) tNil)) (tVar 0))) (tRet (tVar 1)) tNext)) (tRet (tC .non)))
theorem len_read_power {K : PySem.W.Frag} {vs : List V} {H : Hp} {Q : VK} {E : XK} (h : sp_read_power K vs H Q E) : vs.length = 1 := by
  obtain ⟨_, rfl, _⟩ := h; rfl
theorem pure_read_power {K : PySem.W.Frag} (vs : List V) (H : Hp) (Q : VK) (E : XK) (h : sp_read_power K vs H Q E) : t_read_power K E { nx := fun _ H' => Q .non H', rt := Q } (start N_read_power vs) H := by
  obtain ⟨n, rfl, n1, n2, q⟩ := h
  unfold t_read_power
  repeat walk_at "mst"
  refine ⟨1, 40 + 1, rfl, ⟨by decide, by decide, by decide, by decide⟩, for_range (lo := 1) (n := 40) (fun i σ H' => H' = H ∧ i < n ∧ ∃ v : Option V, σ = [some (.str (S (TL.numL (2 ^ n)))), v]) ?_ ?_ ?_⟩
  · exact ⟨rfl, n1, none, rfl⟩
  · rintro i σ H' hi ⟨rfl, hin, v, rfl⟩
    repeat walk_at "mst"
    rename_i m hm1 hm2
    obtain ⟨c1, c2, c3⟩ := pw_ok (p := 1 + (i : Int)) ⟨by omega, by omega⟩
    rw [Int.one_mul] at c1
    rw [c1] at hm2
    subst hm2
    refine k_strI ⟨by omega, by omega⟩ ?_
    have ei : intL ((2 ^ (1 + (i : Int)).toNat : Nat) : Int) = TL.numL (2 ^ (1 + (i : Int)).toNat) := by
      unfold intL
      rw [if_neg (by omega)]; rfl
    rw [ei]
    repeat walk_at "mst"
    refine k_iteD (fun hc => ?_) (fun hc => ?_)
    · have e1 := TL.numL_inj hc
      have e2 : (1 + (i : Int)).toNat = n := (Nat.pow_right_inj (by decide : 1 < 2)).mp e1
      repeat walk_at "mst"
      have e3 : (1 + (i : Int)) = n := by omega
      rw [e3]; exact q
    · repeat walk_at "mst"
      refine ⟨rfl, ?_, _, rfl⟩
      rcases Nat.lt_or_ge (i + 1) n with h | h
      · exact h
      · exfalso
        have e : (1 + (i : Int)).toNat = n := by omega
        rw [e] at hc
        exact hc rfl
  · rintro σ H' ⟨rfl, hin, v, rfl⟩
    omega
theorem use_rpow {K : PySem.W.Frag} {H : Hp} {Q : VK} {E : XK} {n : Nat} (h : 1 ≤ n ∧ n ≤ 40) (q : Q (.int n) H) : sp_read_power K ([.str (S (TL.numL (2 ^ n)))] ++ []) H Q E := ⟨n, rfl, h.1, h.2, q⟩
open SX (S)
def sp_Dyadic_m_from_text (K : PySem.W.Frag) : Sp := fun vs H Q _ => ∃ (t p : Int), vs = [.str (S (txtL t p))] ∧ okTop t p ∧ (p = 0 ∨ ¬ t % 2 = 0) ∧ ∀ r H', Ex H H' → DyAt K H' r t p → Q (.ref r) H'
local macro_rules | `(tactic| walk_at "mst") => `(tactic| first
  | with_reducible refine k_isiSS ?_
  | with_reducible refine k_typS ?_
  | with_reducible refine k_NT ?_
  | with_reducible refine k_tys ?_
  | with_reducible refine k_eqS ?_
  | with_reducible refine k_neS ?_
  | with_reducible refine k_inS ?_
  | with_reducible refine k_truS ?_)
abbrev N_Dyadic_m_from_text : List Str := ["text", "top_text", "slash", "bottom_text", "top", "power", "number"]
def t_Dyadic_m_from_text (K : PySem.W.Frag) (E : XK) : TS := (tSeq (tIfS (tTest (tOp rNT (tCB (rTyp K) (tCons (tVar 0) tNil)) (tC (.ty "str")))) tNever tNext) (tSeq (tAsg (tBM K "str" rPartS (tVar 0) (tCons (tC (.str "/")) tNil)) (gTup K 3 (gCons (gName 1) (gCons (gName 2) (gCons (gName 3) gNil))))) (tSeq (tAsg (tCall (sp_read_top K) [] E0 (tCons (tVar 1) tNil)) (gName 4)) (tSeq (tAsg (tIf (tTru K (tVar 2)) (tCall (sp_read_power K) [] E0 (tCons (tVar 3) tNil)) (tC (.int 0))) (gName 5)) (tSeq (tIfS (tOr (tTest (tOp rIsN (tVar 4) (tC .non))) (tTest (tOp rIsN (tVar 5) (tC .non)))) tNever tNext) (tSeq (tAsg (tMake (He.ga K "Dyadic") (sp_Dyadic_d_init K) [] E0 (tCons (tVar 4) (tCons (tVar 5) tNil))) (gName 6)) (tSeq (tIfS (tTest (tOp rNe (tMeth (He.ga K "Dyadic") "text" (sp_Dyadic_m_text K) [] E0 (tVar 6) tNil) (tVar 0))) tNever tNext) (tRet (tVar 6)))))))))
theorem len_Dyadic_m_from_text {K : PySem.W.Frag} {vs : List V} {H : Hp} {Q : VK} {E : XK} (h : sp_Dyadic_m_from_text K vs H Q E) : vs.length = 1 := by
  obtain ⟨_, _, rfl, _⟩ := h; rfl
theorem plain_slf {t p : Int} (h : p = 0 ∨ ¬ t % 2 = 0) (h0 : 0 ≤ p) : plainZ t p.toNat = (t, p) := by
  obtain ⟨P, rfl⟩ : ∃ P : Nat, p = (P : Int) := ⟨p.toNat, by omega⟩
  rw [Int.toNat_natCast]
  cases P with
  | zero => exact plainZ_zero t
  | succ n =>
    have : ¬ t % 2 = 0 := by rcases h with h | h; omega; exact h
    exact plainZ_odd this
theorem k_isint {A B : Prop} {i : Int} (q : B) : if decide (V.int i = V.non) = true then A else B := by simpa using q
theorem pure_Dyadic_m_from_text {K : PySem.W.Frag} (vs : List V) (H : Hp) (Q : VK) (E : XK) (h : sp_Dyadic_m_from_text K vs H Q E) : t_Dyadic_m_from_text K E { nx := fun _ H' => Q .non H', rt := Q } (start N_Dyadic_m_from_text vs) H := by
  obtain ⟨t, p, rfl, ok, pl, q⟩ := h
  have tl := txt_len ok
  have ok2 := ok.2
  unfold t_Dyadic_m_from_text
  rw [slash_S]
  repeat walk_at "mst"
  refine k_iteN (fun h => absurd rfl h) (fun _ => ?_)
  repeat walk_at "mst"
  refine k_partS (by simp) (by omega) fun P hP => ?_
  rw [part_txt]
  have eP := fun (o : HO) => Evl.Ex.new (o := o) hP
  by_cases hp : p = 0
  · rw [if_pos hp]
    refine k_gtup (k_st upd_same) rfl ?_
    repeat walk_at "mst"
    refine use_rtop ok.1 fun H1 e1 => ?_
    repeat walk_at "mst"
    refine tru_S (by decide) ?_
    rw [decide_eq_true rfl]
    repeat walk_at "mst"
    refine k_isint ?_
    repeat walk_at "mst"
    refine k_isint ?_
    repeat walk_at "mst"
    refine mk_dy (a := t) (b := 0) ⟨ok.1, by decide, by decide⟩ fun r H2 hr e2 hR => ?_
    subst hp
    rw [plain_slf (p := 0) (Or.inl rfl) (by decide)] at hR
    repeat walk_at "mst"
    refine use_text hR ok ?_
    repeat walk_at "mst"
    refine k_iteN (fun h => absurd rfl h) (fun _ => ?_)
    repeat walk_at "mst"
    exact q r _ ((eP _).trans (e1.trans e2)) hR
  · rw [if_neg hp]
    refine k_gtup (k_st upd_same) rfl ?_
    repeat walk_at "mst"
    refine use_rtop ok.1 fun H1 e1 => ?_
    repeat walk_at "mst"
    refine tru_S (by decide) ?_
    rw [decide_eq_false (by simp)]
    repeat walk_at "mst"
    refine use_rpow (n := p.toNat) ⟨by omega, by omega⟩ ?_
    rw [show ((p.toNat : Nat) : Int) = p by omega]
    repeat walk_at "mst"
    refine k_isint ?_
    repeat walk_at "mst"
    refine k_isint ?_
    repeat walk_at "mst"
    refine mk_dy (a := t) (b := p) ok fun r H2 hr e2 hR => ?_
    rw [plain_slf pl ok2.1] at hR
    repeat walk_at "mst"
    refine use_text hR ok ?_
    repeat walk_at "mst"
    refine k_iteN (fun h => absurd rfl h) (fun _ => ?_)
    repeat walk_at "mst"
    exact q r _ ((eP _).trans (e1.trans e2)) hR
theorem use_from {K : PySem.W.Frag} {H : Hp} {Q : VK} {E : XK} {t p : Int} (ok : okTop t p) (pl : p = 0 ∨ ¬ t % 2 = 0) (q : ∀ r H', Ex H H' → DyAt K H' r t p → Q (.ref r) H') : sp_Dyadic_m_from_text K ([.str (S (txtL t p))] ++ []) H Q E := ⟨t, p, rfl, ok, pl, q⟩
/-- thing: an int -/
def sp_law_is_integer (K : PySem.W.Frag) : Sp := spR (fun vs H => ∃ i : Int, vs = [.int i]) (fun vs H v H' => v = .bl true ∧ H' = H)
abbrev N_law_is_integer : List Str := ["thing"]
def t_law_is_integer (K : PySem.W.Frag) (E : XK) : TS := (tRet (tAndV (tCB (rIsi K) (tCons (tVar 0) (tCons (tC (.ty "int")) tNil))) (tNotV (tCB (rIsi K) (tCons (tVar 0) (tCons (tC (.ty "bool")) tNil))))))
theorem len_law_is_integer {K : PySem.W.Frag} {vs : List V} {H : Hp} {Q : VK} {E : XK} (h : sp_law_is_integer K vs H Q E) : vs.length = 1 := by
  obtain ⟨⟨_, rfl⟩, _⟩ := h; rfl
theorem pure_law_is_integer {K : PySem.W.Frag} (vs : List V) (H : Hp) (Q : VK) (E : XK) (h : sp_law_is_integer K vs H Q E) : t_law_is_integer K E { nx := fun _ H' => Q .non H', rt := Q } (start N_law_is_integer vs) H := by
  obtain ⟨⟨i, rfl⟩, q⟩ := h
  unfold t_law_is_integer
  repeat walk_at "mst"
  exact q _ _ ⟨rfl, rfl⟩
theorem use_is_integer {K : PySem.W.Frag} {H : Hp} {Q : VK} {E : XK} {i : Int} (q : Q (.bl true) H) : sp_law_is_integer K ([.int i] ++ []) H Q E :=
  ⟨⟨i, rfl⟩, fun _ _ ⟨e, e'⟩ => by rw [e, e']; exact q⟩
local macro_rules | `(tactic| walk_at "mst") => `(tactic| with_reducible refine use_is_integer ?_)
def sp_Dyadic_m_top (K : PySem.W.Frag) : Sp := spR (fun vs H => ∃ (a : Addr) (t p : Int), vs = [.ref a] ∧ DyAt K H a t p)
  (fun vs H v H' => (∀ (a : Addr) (t p : Int), vs = [.ref a] → DyAt K H a t p → v = .int t) ∧ H' = H)
abbrev N_Dyadic_m_top : List Str := ["self"]
def t_Dyadic_m_top (K : PySem.W.Frag) (E : XK) : TS := (tRet (tFld K (tVar 0) "_top"))
theorem len_Dyadic_m_top {K : PySem.W.Frag} {vs : List V} {H : Hp} {Q : VK} {E : XK} (h : sp_Dyadic_m_top K vs H Q E) : vs.length = 1 := by
  obtain ⟨⟨_, _, _, rfl, _⟩, _⟩ := h; rfl
theorem pure_Dyadic_m_top {K : PySem.W.Frag} (F : FDyadic K) (vs : List V) (H : Hp) (Q : VK) (E : XK) (h : sp_Dyadic_m_top K vs H Q E) : t_Dyadic_m_top K E { nx := fun _ H' => Q .non H', rt := Q } (start N_Dyadic_m_top vs) H := by
  obtain ⟨⟨a, t, p, rfl, hA⟩, q⟩ := h
  obtain ⟨dx, ha⟩ := id hA
  unfold t_Dyadic_m_top
  repeat walk_at "mst"
  refine q _ _ ⟨?_, rfl⟩
  intro a' t' p' e h'
  cases e
  obtain ⟨rfl, rfl⟩ := dy_inj hA h'
  rfl
theorem use_top {K : PySem.W.Frag} {H : Hp} {Q : VK} {E : XK} {a : Addr} {t p : Int} (h : DyAt K H a t p) (q : Q (.int t) H) : sp_Dyadic_m_top K [.ref a] H Q E :=
  ⟨⟨a, t, p, rfl, h⟩, fun _ _ ⟨e, e'⟩ => by rw [e a t p rfl h, e']; exact q⟩
local macro_rules | `(tactic| walk_at "mst") => `(tactic| ((with_reducible refine use_top (t := ?_) (p := ?_) ?_ ?_); rotate_left 2; (focus walk_at "mdy")))
def sp_Dyadic_m_power (K : PySem.W.Frag) : Sp := spR (fun vs H => ∃ (a : Addr) (t p : Int), vs = [.ref a] ∧ DyAt K H a t p)
  (fun vs H v H' => (∀ (a : Addr) (t p : Int), vs = [.ref a] → DyAt K H a t p → v = .int p) ∧ H' = H)
abbrev N_Dyadic_m_power : List Str := ["self"]
def t_Dyadic_m_power (K : PySem.W.Frag) (E : XK) : TS := (tRet (tFld K (tVar 0) "_power"))
theorem len_Dyadic_m_power {K : PySem.W.Frag} {vs : List V} {H : Hp} {Q : VK} {E : XK} (h : sp_Dyadic_m_power K vs H Q E) : vs.length = 1 := by
  obtain ⟨⟨_, _, _, rfl, _⟩, _⟩ := h; rfl
theorem pure_Dyadic_m_power {K : PySem.W.Frag} (F : FDyadic K) (vs : List V) (H : Hp) (Q : VK) (E : XK) (h : sp_Dyadic_m_power K vs H Q E) : t_Dyadic_m_power K E { nx := fun _ H' => Q .non H', rt := Q } (start N_Dyadic_m_power vs) H := by
  obtain ⟨⟨a, t, p, rfl, hA⟩, q⟩ := h
  obtain ⟨dx, ha⟩ := id hA
  unfold t_Dyadic_m_power
  repeat walk_at "mst"
  refine q _ _ ⟨?_, rfl⟩
  intro a' t' p' e h'
  cases e
  obtain ⟨rfl, rfl⟩ := dy_inj hA h'
  rfl
theorem use_power {K : PySem.W.Frag} {H : Hp} {Q : VK} {E : XK} {a : Addr} {t p : Int} (h : DyAt K H a t p) (q : Q (.int p) H) : sp_Dyadic_m_power K [.ref a] H Q E :=
  ⟨⟨a, t, p, rfl, h⟩, fun _ _ ⟨e, e'⟩ => by rw [e a t p rfl h, e']; exact q⟩
local macro_rules | `(tactic| walk_at "mst") => `(tactic| ((with_reducible refine use_power (t := ?_) (p := ?_) ?_ ?_); rotate_left 2; (focus walk_at "mdy")))
def sp_law_holds (K : PySem.W.Frag) : Sp := spR (fun vs H => ∃ (a : Addr) (t p x y : Int), vs = [.ref a, .int x, .int y] ∧ DyAt K H a t p ∧ (0 ≤ y ∧ y ≤ 64) ∧ (plainZ x y.toNat).1 = t ∧ (plainZ x y.toNat).2 = p)
  (fun vs H v H' => v = .bl true ∧ Ex H H')
abbrev N_law_holds : List Str := ["number", "top", "power", "plain"]
def t_law_holds (K : PySem.W.Frag) (E : XK) : TS := (tSeq (tAsg (tCall (sp_law_plain K) [] E0 (tCons (tVar 1) (tCons (tVar 2) tNil))) (gName 3)) (tSeq (tIfS (tOr (tNot (tB (tCB (rIsC (He.ga K "Dyadic")) (tCons (tVar 0) (tCons (tC (.ref (He.ga K "Dyadic"))) tNil))))) (tOr (tNot (tB (tCall (sp_law_is_integer K) [] E0 (tCons (tProp (He.ga K "Dyadic") (sp_Dyadic_m_top K) [] E0 (tVar 0)) tNil)))) (tNot (tB (tCall (sp_law_is_integer K) [] E0 (tCons (tProp (He.ga K "Dyadic") (sp_Dyadic_m_power K) [] E0 (tVar 0)) tNil)))))) (tRet (tC (.bl false))) tNext) (tRet (tAndV (tOp rEq (tProp (He.ga K "Dyadic") (sp_Dyadic_m_top K) [] E0 (tVar 0)) (tOp (rIxT K) (tVar 3) (tC (.int 0)))) (tOp rEq (tProp (He.ga K "Dyadic") (sp_Dyadic_m_power K) [] E0 (tVar 0)) (tOp (rIxT K) (tVar 3) (tC (.int 1))))))))
theorem len_law_holds {K : PySem.W.Frag} {vs : List V} {H : Hp} {Q : VK} {E : XK} (h : sp_law_holds K vs H Q E) : vs.length = 3 := by
  obtain ⟨⟨_, _, _, _, _, rfl, _⟩, _⟩ := h; rfl
theorem pure_law_holds {K : PySem.W.Frag} (vs : List V) (H : Hp) (Q : VK) (E : XK) (h : sp_law_holds K vs H Q E) : t_law_holds K E { nx := fun _ H' => Q .non H', rt := Q } (start N_law_holds vs) H := by
  obtain ⟨⟨a, t, p, x, y, rfl, hA, hy, e1, e2⟩, q⟩ := h
  unfold t_law_holds
  repeat walk_at "mst"
  refine use_plain hy fun pp hpp => ?_
  rw [e1, e2]
  have hA2 : DyAt K (upd H pp (HO.tup [V.int t, V.int p])) a t p := hA.ex (Evl.Ex.new hpp)
  have hp2 : upd H pp (HO.tup [V.int t, V.int p]) pp = some (HO.tup [V.int t, V.int p]) := upd_same
  repeat walk_at "mst"
  refine k_iteD (fun _ => ?_) (fun hn => absurd rfl hn)
  repeat walk_at "mst"
  exact q _ _ ⟨by rw [decide_eq_true rfl], Evl.Ex.new hpp⟩
theorem use_holds {K : PySem.W.Frag} {H : Hp} {Q : VK} {E : XK} {a : Addr} {t p x y : Int} (hA : DyAt K H a t p) (hy : 0 ≤ y ∧ y ≤ 64) (e1 : (plainZ x y.toNat).1 = t) (e2 : (plainZ x y.toNat).2 = p) (k : ∀ H', Ex H H' → Q (.bl true) H') : sp_law_holds K ([.ref a, .int x, .int y] ++ []) H Q E :=
  ⟨⟨a, t, p, x, y, rfl, hA, hy, e1, e2⟩, fun _ H' ⟨e, e'⟩ => by rw [e]; exact k H' e'⟩
open SX (S)
def sp_law_read_back (K : PySem.W.Frag) : Sp := fun vs H Q _ => ∃ (a z : Addr) (x y : Int), vs = [.ref a, .ref z] ∧ DyAt K H a (plainZ x y.toNat).1 (plainZ x y.toNat).2 ∧ H z = some (.tup [.int x, .int y]) ∧ okTop x y ∧ ∀ H', Ex H H' → Q (.bl true) H'
local macro_rules | `(tactic| walk_at "mst") => `(tactic| first
  | with_reducible refine k_isiSS ?_
  | with_reducible refine k_typS ?_
  | with_reducible refine k_NT ?_
  | with_reducible refine k_tys ?_
  | with_reducible refine k_eqS ?_
  | with_reducible refine k_neS ?_
  | with_reducible refine k_inS ?_
  | with_reducible refine k_truS ?_)
abbrev N_law_read_back : List Str := ["number", "pair", "text", "found"]
def t_law_read_back (K : PySem.W.Frag) (E : XK) : TS := (tSeq (tAsg (tMeth (He.ga K "Dyadic") "text" (sp_Dyadic_m_text K) [] E0 (tVar 0) tNil) (gName 2)) (tSeq (tIfS (tOr (tNot (tB (tCB (rIsi K) (tCons (tVar 2) (tCons (tC (.ty "str")) tNil))))) (tTest (tOp rNe (tVar 2) (tCall (sp_law_text K) [] E0 (tCons (tOp (rIxT K) (tVar 1) (tC (.int 0))) (tCons (tOp (rIxT K) (tVar 1) (tC (.int 1))) tNil)))))) (tRet (tC (.bl false))) tNext) (tSeq (tAsg (tSMeth (He.ga K "Dyadic") (sp_Dyadic_m_from_text K) [] E0 (tC (.ref (He.ga K "Dyadic"))) (tCons (tVar 2) tNil)) (gName 3)) (tSeq (tIfS (tNot (tB (tCall (sp_law_holds K) [] E0 (tCons (tVar 3) (tCons (tOp (rIxT K) (tVar 1) (tC (.int 0))) (tCons (tOp (rIxT K) (tVar 1) (tC (.int 1))) tNil)))))) (tRet (tC (.bl false))) tNext) (tRet (tOp rEq (tMeth (He.ga K "Dyadic") "text" (sp_Dyadic_m_text K) [] E0 (tVar 3) tNil) (tVar 2)))))))
theorem len_law_read_back {K : PySem.W.Frag} {vs : List V} {H : Hp} {Q : VK} {E : XK} (h : sp_law_read_back K vs H Q E) : vs.length = 2 := by
  obtain ⟨_, _, _, _, rfl, _⟩ := h; rfl
theorem pure_law_read_back {K : PySem.W.Frag} (vs : List V) (H : Hp) (Q : VK) (E : XK) (h : sp_law_read_back K vs H Q E) : t_law_read_back K E { nx := fun _ H' => Q .non H', rt := Q } (start N_law_read_back vs) H := by
  obtain ⟨a, z, x, y, rfl, hA, hz, ok, q⟩ := h
  have okp := okTop_pl ok
  have y1 := ok.2
  have ppl := plainZ_plain x y.toNat
  unfold t_law_read_back
  repeat walk_at "mst"
  refine use_text hA okp ?_
  repeat walk_at "mst"
  refine use_ltext ok fun H1 e1 => ?_
  have hz1 := e1 _ _ hz
  repeat walk_at "mst"
  refine k_iteN (fun h => absurd rfl h) (fun _ => ?_)
  repeat walk_at "mst"
  refine ⟨rfl, ?_⟩
  repeat walk_at "mst"
  refine use_from okp ppl fun r H2 e2 hR => ?_
  have hz2 := e2 _ _ hz1
  repeat walk_at "mst"
  refine use_holds hR ⟨y1.1, by omega⟩ rfl rfl fun H3 e3 => ?_
  repeat walk_at "mst"
  refine use_text (hR.ex e3) okp ?_
  repeat walk_at "mst"
  rw [decide_eq_true rfl]
  exact q _ (e1.trans (e2.trans e3))
theorem use_rback {K : PySem.W.Frag} {H : Hp} {Q : VK} {E : XK} {a z : Addr} {x y : Int} (hA : DyAt K H a (plainZ x y.toNat).1 (plainZ x y.toNat).2) (hz : H z = some (.tup [.int x, .int y])) (ok : okTop x y) (q : ∀ H', Ex H H' → Q (.bl true) H') : sp_law_read_back K ([.ref a, .ref z] ++ []) H Q E := ⟨a, z, x, y, rfl, hA, hz, ok, q⟩
open SX (S)
def sp_law (K : PySem.W.Frag) : Sp := spR (fun vs H => ∃ (a : Addr) (ns : List Int), vs = [.ref a] ∧ SqL K H a (ns.map V.int)) (fun _ _ v _ => v = .bl true)
local macro_rules | `(tactic| walk_at "mst") => `(tactic| first
  | with_reducible refine k_isiSS ?_
  | with_reducible refine k_typS ?_
  | with_reducible refine k_NT ?_
  | with_reducible refine k_tys ?_
  | with_reducible refine k_eqS ?_
  | with_reducible refine k_neS ?_
  | with_reducible refine k_inS ?_
  | with_reducible refine k_truS ?_)
abbrev N_law : List Str := ["script", "first", "second", "one", "other", "found"]
def t_law (K : PySem.W.Frag) (E : XK) : TS := (tSeq (tAsg (tCall (sp_law_pair K) [] E0 (tCons (tCall (sp_law_cell K) [] E0 (tCons (tVar 0) (tCons (tC (.int 0)) tNil))) (tCons (tCall (sp_law_cell K) [] E0 (tCons (tVar 0) (tCons (tC (.int 1)) tNil))) tNil))) (gName 1)) (tSeq (tAsg (tCall (sp_law_pair K) [] E0 (tCons (tCall (sp_law_cell K) [] E0 (tCons (tVar 0) (tCons (tC (.int 2)) tNil))) (tCons (tCall (sp_law_cell K) [] E0 (tCons (tVar 0) (tCons (tC (.int 3)) tNil))) tNil))) (gName 2)) (tSeq (tAsg (tMake (He.ga K "Dyadic") (sp_Dyadic_d_init K) [] E0 (tCons (tOp (rIxT K) (tVar 1) (tC (.int 0))) (tCons (tOp (rIxT K) (tVar 1) (tC (.int 1))) tNil))) (gName 3)) (tSeq (tAsg (tMake (He.ga K "Dyadic") (sp_Dyadic_d_init K) [] E0 (tCons (tOp (rIxT K) (tVar 2) (tC (.int 0))) (tCons (tOp (rIxT K) (tVar 2) (tC (.int 1))) tNil))) (gName 4)) (tSeq (tIfS (tOr (tNot (tB (tCall (sp_law_read_back K) [] E0 (tCons (tVar 3) (tCons (tVar 1) tNil))))) (tOr (tNot (tB (tCall (sp_law_read_back K) [] E0 (tCons (tVar 4) (tCons (tVar 2) tNil))))) (tNot (tB (tCall (sp_law_read_back K) [] E0 (tCons (tVar 3) (tCons (tVar 1) tNil))))))) (tRet (tC (.bl false))) tNext) (tSeq (tAsg (tSMeth (He.ga K "Dyadic") (sp_Dyadic_m_from_text K) [] E0 (tC (.ref (He.ga K "Dyadic"))) (tCons (tCall (sp_law_text K) [] E0 (tCons (tOp (rIxT K) (tVar 2) (tC (.int 0))) (tCons (tOp (rIxT K) (tVar 2) (tC (.int 1))) tNil))) tNil)) (gName 5)) (tRet (tAndV (tCall (sp_law_holds K) [] E0 (tCons (tVar 5) (tCons (tOp (rIxT K) (tVar 2) (tC (.int 0))) (tCons (tOp (rIxT K) (tVar 2) (tC (.int 1))) tNil)))) (tCall (sp_law_holds K) [] E0 (tCons (tVar 3) (tCons (tOp (rIxT K) (tVar 1) (tC (.int 0))) (tCons (tOp (rIxT K) (tVar 1) (tC (.int 1))) tNil))))))))))))
theorem len_law {K : PySem.W.Frag} {vs : List V} {H : Hp} {Q : VK} {E : XK} (h : sp_law K vs H Q E) : vs.length = 1 := by
  obtain ⟨⟨_, _, rfl, _⟩, _⟩ := h; rfl
theorem pure_law {K : PySem.W.Frag} (vs : List V) (H : Hp) (Q : VK) (E : XK) (h : sp_law K vs H Q E) : t_law K E { nx := fun _ H' => Q .non H', rt := Q } (start N_law vs) H := by
  obtain ⟨⟨a, ns, rfl, hS⟩, q⟩ := h
  have fin : ∀ b H', b = true → Q (.bl b) H' := by rintro b H' rfl; exact q _ _ rfl
  unfold t_law
  repeat walk_at "mst"
  refine use_cell hS (by decide) fun c0 => ?_
  repeat walk_at "mst"
  refine use_cell hS (by decide) fun c1 => ?_
  repeat walk_at "mst"
  refine use_pair fun p1 x1 y1 H1 hp1 e1 hf hx1 hy1 => ?_
  repeat walk_at "mst"
  refine use_cell (Evl.ex_l e1 hS) (by decide) fun c2 => ?_
  repeat walk_at "mst"
  refine use_cell (Evl.ex_l e1 hS) (by decide) fun c3 => ?_
  repeat walk_at "mst"
  refine use_pair fun p2 x2 y2 H2 hp2 e2 hs hx2 hy2 => ?_
  have ok1 : okTop x1 y1 := ⟨hx1, hy1⟩
  have ok2 : okTop x2 y2 := ⟨hx2, hy2⟩
  have w1 : 0 ≤ y1 ∧ y1 ≤ 64 := ⟨hy1.1, by omega⟩
  have w2 : 0 ≤ y2 ∧ y2 ≤ 64 := ⟨hy2.1, by omega⟩
  have hf2 := e2 _ _ hf
  repeat walk_at "mst"
  refine mk_dy ok1 fun n H3 hn3 e3 hN => ?_
  have hs3 := e3 _ _ hs
  repeat walk_at "mst"
  refine mk_dy ok2 fun m H4 hm4 e4 hM => ?_
  have hN4 := hN.ex e4
  have hf4 := e4 _ _ (e3 _ _ hf2)
  have hs4 := e4 _ _ hs3
  repeat walk_at "mst"
  refine use_rback hN4 hf4 ok1 fun H5 e5 => ?_
  repeat walk_at "mst"
  refine use_rback (hM.ex e5) (e5 _ _ hs4) ok2 fun H6 e6 => ?_
  have e46 := e5.trans e6
  repeat walk_at "mst"
  refine use_rback (hN4.ex e46) (e46 _ _ hf4) ok1 fun H7 e7 => ?_
  have e47 := e46.trans e7
  have hs7 := e47 _ _ hs4
  have hf7 := e47 _ _ hf4
  repeat walk_at "mst"
  refine ⟨rfl, ?_⟩
  repeat walk_at "mst"
  refine use_ltext ok2 fun H8 e8 => ?_
  have hs8 := e8 _ _ hs7
  repeat walk_at "mst"
  refine use_from (okTop_pl ok2) (plainZ_plain x2 y2.toNat) fun r H9 e9 hR => ?_
  have hs9 := e9 _ _ hs8
  have hf9 := e9 _ _ (e8 _ _ hf7)
  have hN9 := hN4.ex (e47.trans (e8.trans e9))
  repeat walk_at "mst"
  refine use_holds hR w2 rfl rfl fun HA eA => ?_
  have hfA := eA _ _ hf9
  repeat walk_at "mst"
  refine use_holds (hN9.ex eA) w1 rfl rfl fun HB eB => ?_
  exact fin _ _ rfl
def top (i : Nat) : Stmt := PySem.Challenge.pw_sumsplay_k04_texts_read_back.main.body.getD i (.Pass ⟨0, 0, 0, 0⟩)
abbrev s_law_digits : Stmt := top 19
abbrev R_law_digits : List Str := ["cell", "count", "row", "k", "seed"]
theorem sc_law_digits : FnScope R_law_digits ["cell", "count"] (defScope s_law_digits) := ⟨rfl, rfl, rfl, by decide +kernel, rfl, by decide +kernel, by decide +kernel⟩
abbrev ad_law_digits (K : PySem.W.Frag) : Addr := He.ga K "_law_digits"
abbrev s_law_pair : Stmt := top 22
abbrev R_law_pair : List Str := ["cell", "shape", "digits", "power", "most", "top", "size"]
theorem sc_law_pair : FnScope R_law_pair ["cell", "shape"] (defScope s_law_pair) := ⟨rfl, rfl, rfl, by decide +kernel, rfl, by decide +kernel, by decide +kernel⟩
abbrev ad_law_pair (K : PySem.W.Frag) : Addr := He.ga K "_law_pair"
abbrev s_law_cell : Stmt := top 18
abbrev R_law_cell : List Str := ["script", "k", "mixed", "cell"]
theorem sc_law_cell : FnScope R_law_cell ["script", "k"] (defScope s_law_cell) := ⟨rfl, rfl, rfl, by decide +kernel, rfl, by decide +kernel, by decide +kernel⟩
abbrev ad_law_cell (K : PySem.W.Frag) : Addr := He.ga K "_law_cell"
abbrev s_is_whole : Stmt := top 6
abbrev R_is_whole : List Str := ["thing", "least", "most"]
theorem sc_is_whole : FnScope R_is_whole ["thing", "least", "most"] (defScope s_is_whole) := ⟨rfl, rfl, rfl, by decide +kernel, rfl, by decide +kernel, by decide +kernel⟩
abbrev ad_is_whole (K : PySem.W.Frag) : Addr := He.ga K "is_whole"
abbrev s_plain : Stmt := top 12
abbrev R_plain : List Str := ["top", "power"]
theorem sc_plain : FnScope R_plain ["top", "power"] (defScope s_plain) := ⟨rfl, rfl, rfl, by decide +kernel, rfl, by decide +kernel, by decide +kernel⟩
abbrev ad_plain (K : PySem.W.Frag) : Addr := He.ga K "_plain"
abbrev s_Dyadic_d_init : Stmt := inClass (top 11) 0
abbrev R_Dyadic_d_init : List Str := ["self", "top", "power"]
theorem sc_Dyadic_d_init : FnScope R_Dyadic_d_init ["self", "top", "power"] (defScope s_Dyadic_d_init) := ⟨rfl, rfl, rfl, by decide +kernel, rfl, by decide +kernel, by decide +kernel⟩
abbrev ad_Dyadic_d_init (K : PySem.W.Frag) : Addr := He.ma K (He.ga K "Dyadic") "__init__"
abbrev s_Dyadic_m_text : Stmt := inClass (top 11) 9
abbrev R_Dyadic_m_text : List Str := ["self"]
theorem sc_Dyadic_m_text : FnScope R_Dyadic_m_text ["self"] (defScope s_Dyadic_m_text) := ⟨rfl, rfl, rfl, by decide +kernel, rfl, by decide +kernel, by decide +kernel⟩
abbrev ad_Dyadic_m_text (K : PySem.W.Frag) : Addr := He.ma K (He.ga K "Dyadic") "text"
abbrev s_law_plain : Stmt := top 21
abbrev R_law_plain : List Str := ["top", "power", "k"]
theorem sc_law_plain : FnScope R_law_plain ["top", "power"] (defScope s_law_plain) := ⟨rfl, rfl, rfl, by decide +kernel, rfl, by decide +kernel, by decide +kernel⟩
abbrev ad_law_plain (K : PySem.W.Frag) : Addr := He.ga K "_law_plain"
abbrev s_law_text : Stmt := top 24
abbrev R_law_text : List Str := ["top", "power", "plain"]
theorem sc_law_text : FnScope R_law_text ["top", "power"] (defScope s_law_text) := ⟨rfl, rfl, rfl, by decide +kernel, rfl, by decide +kernel, by decide +kernel⟩
abbrev ad_law_text (K : PySem.W.Frag) : Addr := He.ga K "_law_text"
abbrev s_are_digits : Stmt := top 15
abbrev R_are_digits : List Str := ["text", "sign"]
theorem sc_are_digits : FnScope R_are_digits ["text"] (defScope s_are_digits) := ⟨rfl, rfl, rfl, by decide +kernel, rfl, by decide +kernel, by decide +kernel⟩
abbrev ad_are_digits (K : PySem.W.Frag) : Addr := He.ga K "_are_digits"
abbrev s_read_top : Stmt := top 14
abbrev R_read_top : List Str := ["text", "digits", "top"]
theorem sc_read_top : FnScope R_read_top ["text"] (defScope s_read_top) := ⟨rfl, rfl, rfl, by decide +kernel, rfl, by decide +kernel, by decide +kernel⟩
abbrev ad_read_top (K : PySem.W.Frag) : Addr := He.ga K "_read_top"
abbrev s_read_power : Stmt := top 16
abbrev R_read_power : List Str := ["text", "power"]
theorem sc_read_power : FnScope R_read_power ["text"] (defScope s_read_power) := ⟨rfl, rfl, rfl, by decide +kernel, rfl, by decide +kernel, by decide +kernel⟩
abbrev ad_read_power (K : PySem.W.Frag) : Addr := He.ga K "_read_power"
abbrev s_Dyadic_m_from_text : Stmt := inClass (top 11) 11
abbrev R_Dyadic_m_from_text : List Str := ["text", "top_text", "slash", "bottom_text", "top", "power", "number"]
theorem sc_Dyadic_m_from_text : FnScope R_Dyadic_m_from_text ["text"] (defScope s_Dyadic_m_from_text) := ⟨rfl, rfl, rfl, by decide +kernel, rfl, by decide +kernel, by decide +kernel⟩
abbrev ad_Dyadic_m_from_text (K : PySem.W.Frag) : Addr := statG K "Dyadic" "from_text"
abbrev s_law_is_integer : Stmt := top 20
abbrev R_law_is_integer : List Str := ["thing"]
theorem sc_law_is_integer : FnScope R_law_is_integer ["thing"] (defScope s_law_is_integer) := ⟨rfl, rfl, rfl, by decide +kernel, rfl, by decide +kernel, by decide +kernel⟩
abbrev ad_law_is_integer (K : PySem.W.Frag) : Addr := He.ga K "_law_is_integer"
abbrev s_Dyadic_m_top : Stmt := inClass (top 11) 1
abbrev R_Dyadic_m_top : List Str := ["self"]
theorem sc_Dyadic_m_top : FnScope R_Dyadic_m_top ["self"] (defScope s_Dyadic_m_top) := ⟨rfl, rfl, rfl, by decide +kernel, rfl, by decide +kernel, by decide +kernel⟩
abbrev ad_Dyadic_m_top (K : PySem.W.Frag) : Addr := propG K "Dyadic" "top"
abbrev s_Dyadic_m_power : Stmt := inClass (top 11) 2
abbrev R_Dyadic_m_power : List Str := ["self"]
theorem sc_Dyadic_m_power : FnScope R_Dyadic_m_power ["self"] (defScope s_Dyadic_m_power) := ⟨rfl, rfl, rfl, by decide +kernel, rfl, by decide +kernel, by decide +kernel⟩
abbrev ad_Dyadic_m_power (K : PySem.W.Frag) : Addr := propG K "Dyadic" "power"
abbrev s_law_holds : Stmt := top 23
abbrev R_law_holds : List Str := ["number", "top", "power", "plain"]
theorem sc_law_holds : FnScope R_law_holds ["number", "top", "power"] (defScope s_law_holds) := ⟨rfl, rfl, rfl, by decide +kernel, rfl, by decide +kernel, by decide +kernel⟩
abbrev ad_law_holds (K : PySem.W.Frag) : Addr := He.ga K "_law_holds"
abbrev s_law_read_back : Stmt := top 25
abbrev R_law_read_back : List Str := ["number", "pair", "text", "found"]
theorem sc_law_read_back : FnScope R_law_read_back ["number", "pair"] (defScope s_law_read_back) := ⟨rfl, rfl, rfl, by decide +kernel, rfl, by decide +kernel, by decide +kernel⟩
abbrev ad_law_read_back (K : PySem.W.Frag) : Addr := He.ga K "_law_read_back"
abbrev s_law : Stmt := top 26
abbrev R_law : List Str := ["script", "first", "second", "one", "other", "found"]
theorem sc_law : FnScope R_law ["script"] (defScope s_law) := ⟨rfl, rfl, rfl, by decide +kernel, rfl, by decide +kernel, by decide +kernel⟩
abbrev ad_law (K : PySem.W.Frag) : Addr := He.ga K "law"
structure Txt (K : PySem.W.Frag) (mg : Str → Option Value) : Prop where
  g_BadValue : mg "BadValue" = some (.ref (He.ga K "BadValue"))
  g_Dyadic : mg "Dyadic" = some (.ref (He.ga K "Dyadic"))
  g__are_digits : mg "_are_digits" = some (.ref (He.ga K "_are_digits"))
  g__law_cell : mg "_law_cell" = some (.ref (He.ga K "_law_cell"))
  g__law_digits : mg "_law_digits" = some (.ref (He.ga K "_law_digits"))
  g__law_holds : mg "_law_holds" = some (.ref (He.ga K "_law_holds"))
  g__law_is_integer : mg "_law_is_integer" = some (.ref (He.ga K "_law_is_integer"))
  g__law_pair : mg "_law_pair" = some (.ref (He.ga K "_law_pair"))
  g__law_plain : mg "_law_plain" = some (.ref (He.ga K "_law_plain"))
  g__law_read_back : mg "_law_read_back" = some (.ref (He.ga K "_law_read_back"))
  g__law_text : mg "_law_text" = some (.ref (He.ga K "_law_text"))
  g__plain : mg "_plain" = some (.ref (He.ga K "_plain"))
  g__read_power : mg "_read_power" = some (.ref (He.ga K "_read_power"))
  g__read_top : mg "_read_top" = some (.ref (He.ga K "_read_top"))
  g_is_whole : mg "is_whole" = some (.ref (He.ga K "is_whole"))
  g_law : mg "law" = some (.ref (He.ga K "law"))
  z_abs : mg "abs" = none
  z_all : mg "all" = none
  z_bool : mg "bool" = none
  z_int : mg "int" = none
  z_isinstance : mg "isinstance" = none
  z_len : mg "len" = none
  z_min : mg "min" = none
  z_range : mg "range" = none
  z_str : mg "str" = none
  z_type : mg "type" = none
  c_LONGEST_TOP : ∃ t, mg "LONGEST_TOP" = some (.int (14) t)
  c_MOST_POWER : ∃ t, mg "MOST_POWER" = some (.int (40) t)
  c_MOST_TOP : ∃ t, mg "MOST_TOP" = some (.int (1000000000000) t)
  cl_Dyadic : Cls K (He.ga K "Dyadic")
  x_BadValue : PySem.W.excIn K (He.ga K "BadValue") He.veBase "ValueError.__new__" = true ∧ PySem.W.keepIn K (.ref (He.ga K "BadValue")) = true ∧ PySem.W.subIn K (.ref (He.ga K "BadValue")) (.type "BaseException") = some true ∧ PySem.W.typeIn K (.ref (He.ga K "BadValue")) = some (.type "type")
  ic_Dyadic : C8.InsC K (He.ga K "Dyadic")
  mt_Dyadic_text : Meth K (He.ga K "Dyadic") "text" (He.ma K (He.ga K "Dyadic") "text")
  mk_Dyadic : Mk K (He.ga K "Dyadic") (He.ma K (He.ga K "Dyadic") "__init__")
  na_Dyadic__power : NoAttr K (He.ga K "Dyadic") "_power"
  na_Dyadic__top : NoAttr K (He.ga K "Dyadic") "_top"
  pr_Dyadic_power : PropOf K (He.ga K "Dyadic") "power" (He.ma K (He.ga K "Dyadic") "power") (propG K "Dyadic" "power")
  pr_Dyadic_top : PropOf K (He.ga K "Dyadic") "top" (He.ma K (He.ga K "Dyadic") "top") (propG K "Dyadic" "top")
  st_Dyadic_from_text : SMet K (He.ga K "Dyadic") "from_text" (He.ma K (He.ga K "Dyadic") "from_text") (statG K "Dyadic" "from_text")
  d_law_digits : ∃ fd, FunD K "_law_digits" "_law_digits" (defArgs s_law_digits) (defBody s_law_digits) (defScope s_law_digits) [] [] (ad_law_digits K) fd
  d_law_pair : ∃ fd, FunD K "_law_pair" "_law_pair" (defArgs s_law_pair) (defBody s_law_pair) (defScope s_law_pair) [] [] (ad_law_pair K) fd
  d_law_cell : ∃ fd, FunD K "_law_cell" "_law_cell" (defArgs s_law_cell) (defBody s_law_cell) (defScope s_law_cell) [] [] (ad_law_cell K) fd
  d_is_whole : ∃ fd, FunD K "is_whole" "is_whole" (defArgs s_is_whole) (defBody s_is_whole) (defScope s_is_whole) [] [] (ad_is_whole K) fd
  d_plain : ∃ fd, FunD K "_plain" "_plain" (defArgs s_plain) (defBody s_plain) (defScope s_plain) [] [] (ad_plain K) fd
  d_Dyadic_d_init : ∃ fd, FunD K "__init__" "Dyadic.__init__" (defArgs s_Dyadic_d_init) (defBody s_Dyadic_d_init) (defScope s_Dyadic_d_init) [.int 0] [] (ad_Dyadic_d_init K) fd
  d_Dyadic_m_text : ∃ fd, FunD K "text" "Dyadic.text" (defArgs s_Dyadic_m_text) (defBody s_Dyadic_m_text) (defScope s_Dyadic_m_text) [] [] (ad_Dyadic_m_text K) fd
  d_law_plain : ∃ fd, FunD K "_law_plain" "_law_plain" (defArgs s_law_plain) (defBody s_law_plain) (defScope s_law_plain) [] [] (ad_law_plain K) fd
  d_law_text : ∃ fd, FunD K "_law_text" "_law_text" (defArgs s_law_text) (defBody s_law_text) (defScope s_law_text) [] [] (ad_law_text K) fd
  d_are_digits : ∃ fd, FunD K "_are_digits" "_are_digits" (defArgs s_are_digits) (defBody s_are_digits) (defScope s_are_digits) [] [] (ad_are_digits K) fd
  d_read_top : ∃ fd, FunD K "_read_top" "_read_top" (defArgs s_read_top) (defBody s_read_top) (defScope s_read_top) [] [] (ad_read_top K) fd
  d_read_power : ∃ fd, FunD K "_read_power" "_read_power" (defArgs s_read_power) (defBody s_read_power) (defScope s_read_power) [] [] (ad_read_power K) fd
  d_Dyadic_m_from_text : ∃ fd, FunD K "from_text" "Dyadic.from_text" (defArgs s_Dyadic_m_from_text) (defBody s_Dyadic_m_from_text) (defScope s_Dyadic_m_from_text) [] [] (ad_Dyadic_m_from_text K) fd
  d_law_is_integer : ∃ fd, FunD K "_law_is_integer" "_law_is_integer" (defArgs s_law_is_integer) (defBody s_law_is_integer) (defScope s_law_is_integer) [] [] (ad_law_is_integer K) fd
  d_Dyadic_m_top : ∃ fd, FunD K "top" "Dyadic.top" (defArgs s_Dyadic_m_top) (defBody s_Dyadic_m_top) (defScope s_Dyadic_m_top) [] [] (ad_Dyadic_m_top K) fd
  d_Dyadic_m_power : ∃ fd, FunD K "power" "Dyadic.power" (defArgs s_Dyadic_m_power) (defBody s_Dyadic_m_power) (defScope s_Dyadic_m_power) [] [] (ad_Dyadic_m_power K) fd
  d_law_holds : ∃ fd, FunD K "_law_holds" "_law_holds" (defArgs s_law_holds) (defBody s_law_holds) (defScope s_law_holds) [] [] (ad_law_holds K) fd
  d_law_read_back : ∃ fd, FunD K "_law_read_back" "_law_read_back" (defArgs s_law_read_back) (defBody s_law_read_back) (defScope s_law_read_back) [] [] (ad_law_read_back K) fd
  d_law : ∃ fd, FunD K "law" "law" (defArgs s_law) (defBody s_law) (defScope s_law) [] [] (ad_law K) fd
theorem Txt.FDyadic {K : PySem.W.Frag} {mg : Str → Option Value} (T : Txt K mg) : FDyadic K := ⟨T.cl_Dyadic, T.na_Dyadic__top, T.na_Dyadic__power⟩
abbrev O_law_digits (P : Program) (w : World) (K : PySem.W.Frag) (mg : Str → Option Value) (base : Heap) : Prop := DefOk P w K mg base CX0 1 "_law_digits" "_law_digits" s_law_digits [] (ad_law_digits K) ["cell", "count"] (sp_law_digits K)
abbrev O_law_pair (P : Program) (w : World) (K : PySem.W.Frag) (mg : Str → Option Value) (base : Heap) : Prop := DefOk P w K mg base CX0 2 "_law_pair" "_law_pair" s_law_pair [] (ad_law_pair K) ["cell", "shape"] (sp_law_pair K)
abbrev O_law_cell (P : Program) (w : World) (K : PySem.W.Frag) (mg : Str → Option Value) (base : Heap) : Prop := DefOk P w K mg base CX0 1 "_law_cell" "_law_cell" s_law_cell [] (ad_law_cell K) ["script", "k"] (sp_law_cell K)
abbrev O_is_whole (P : Program) (w : World) (K : PySem.W.Frag) (mg : Str → Option Value) (base : Heap) : Prop := DefOk P w K mg base CX0 1 "is_whole" "is_whole" s_is_whole [] (ad_is_whole K) ["thing", "least", "most"] (sp_is_whole K)
abbrev O_plain (P : Program) (w : World) (K : PySem.W.Frag) (mg : Str → Option Value) (base : Heap) : Prop := DefOk P w K mg base CX0 1 "_plain" "_plain" s_plain [] (ad_plain K) ["top", "power"] (sp_plain K)
abbrev O_Dyadic_d_init (P : Program) (w : World) (K : PySem.W.Frag) (mg : Str → Option Value) (base : Heap) : Prop := DefOk P w K mg base (L2.CX P w) 2 "__init__" "Dyadic.__init__" s_Dyadic_d_init [.int 0] (ad_Dyadic_d_init K) ["self", "top", "power"] (sp_Dyadic_d_init K)
abbrev O_Dyadic_m_text (P : Program) (w : World) (K : PySem.W.Frag) (mg : Str → Option Value) (base : Heap) : Prop := DefOk P w K mg base CX0 1 "text" "Dyadic.text" s_Dyadic_m_text [] (ad_Dyadic_m_text K) ["self"] (sp_Dyadic_m_text K)
abbrev O_law_plain (P : Program) (w : World) (K : PySem.W.Frag) (mg : Str → Option Value) (base : Heap) : Prop := DefOk P w K mg base CX0 1 "_law_plain" "_law_plain" s_law_plain [] (ad_law_plain K) ["top", "power"] (sp_law_plain K)
abbrev O_law_text (P : Program) (w : World) (K : PySem.W.Frag) (mg : Str → Option Value) (base : Heap) : Prop := DefOk P w K mg base CX0 2 "_law_text" "_law_text" s_law_text [] (ad_law_text K) ["top", "power"] (sp_law_text K)
abbrev O_are_digits (P : Program) (w : World) (K : PySem.W.Frag) (mg : Str → Option Value) (base : Heap) : Prop := DefOk P w K mg base CX0 1 "_are_digits" "_are_digits" s_are_digits [] (ad_are_digits K) ["text"] (sp_are_digits K)
abbrev O_read_top (P : Program) (w : World) (K : PySem.W.Frag) (mg : Str → Option Value) (base : Heap) : Prop := DefOk P w K mg base CX0 2 "_read_top" "_read_top" s_read_top [] (ad_read_top K) ["text"] (sp_read_top K)
abbrev O_read_power (P : Program) (w : World) (K : PySem.W.Frag) (mg : Str → Option Value) (base : Heap) : Prop := DefOk P w K mg base CX0 1 "_read_power" "_read_power" s_read_power [] (ad_read_power K) ["text"] (sp_read_power K)
abbrev O_Dyadic_m_from_text (P : Program) (w : World) (K : PySem.W.Frag) (mg : Str → Option Value) (base : Heap) : Prop := DefOk P w K mg base CX0 4 "from_text" "Dyadic.from_text" s_Dyadic_m_from_text [] (ad_Dyadic_m_from_text K) ["text"] (sp_Dyadic_m_from_text K)
abbrev O_law_is_integer (P : Program) (w : World) (K : PySem.W.Frag) (mg : Str → Option Value) (base : Heap) : Prop := DefOk P w K mg base CX0 1 "_law_is_integer" "_law_is_integer" s_law_is_integer [] (ad_law_is_integer K) ["thing"] (sp_law_is_integer K)
abbrev O_Dyadic_m_top (P : Program) (w : World) (K : PySem.W.Frag) (mg : Str → Option Value) (base : Heap) : Prop := DefOk P w K mg base CX0 1 "top" "Dyadic.top" s_Dyadic_m_top [] (ad_Dyadic_m_top K) ["self"] (sp_Dyadic_m_top K)
abbrev O_Dyadic_m_power (P : Program) (w : World) (K : PySem.W.Frag) (mg : Str → Option Value) (base : Heap) : Prop := DefOk P w K mg base CX0 1 "power" "Dyadic.power" s_Dyadic_m_power [] (ad_Dyadic_m_power K) ["self"] (sp_Dyadic_m_power K)
abbrev O_law_holds (P : Program) (w : World) (K : PySem.W.Frag) (mg : Str → Option Value) (base : Heap) : Prop := DefOk P w K mg base CX0 3 "_law_holds" "_law_holds" s_law_holds [] (ad_law_holds K) ["number", "top", "power"] (sp_law_holds K)
abbrev O_law_read_back (P : Program) (w : World) (K : PySem.W.Frag) (mg : Str → Option Value) (base : Heap) : Prop := DefOk P w K mg base CX0 5 "_law_read_back" "_law_read_back" s_law_read_back [] (ad_law_read_back K) ["number", "pair"] (sp_law_read_back K)
abbrev O_law (P : Program) (w : World) (K : PySem.W.Frag) (mg : Str → Option Value) (base : Heap) : Prop := DefOk P w K mg base CX0 6 "law" "law" s_law [] (ad_law K) ["script"] (sp_law K)
theorem ok_law_digits {P : Program} {w : World} {K : PySem.W.Frag} {mg : Str → Option Value} {base : Heap} (T : Txt K mg)  : O_law_digits P w K mg base := by
  obtain ⟨fd, X⟩ := T.d_law_digits
  refine ⟨fd, X, X.ok sc_law_digits (fun vs H Q E h => len_law_digits h) (fun cdv A outer s H vs Q E hr h => ⟨t_law_digits K E, PSs.nox ?_, pure_law_digits vs H Q E h⟩)⟩
  exact (pss_cons (ps_set (i := 2) sc_law_digits.nd rfl (Or.inl rfl) (pe_lst pa_nil))
      (pss_cons (ps_if (pt_cmpR op_ge (pv 0) (pe_op op_pow pe_int pe_int) (nomark _)) (pss_cons (ps_for PassesOwn.never rfl (pi_range1 rfl T.z_range (pa_cons (pv 1) pa_nil)) (pg_name (i := 3) sc_law_digits.nd rfl (Or.inl rfl))
      (pss_cons (ps_expr (pe_bm PySem.F.plainAttrs_list PySem.F.slot_list_append PySem.F.type_list_append mt_append (pv 2) (pa_cons (pe_op op_mod (pe_callTy cr_intI rfl T.z_int (by decide +kernel) (pa_cons (pv 0) pa_nil)) pe_int) pa_nil)))
      (pss_one (ps_set (i := 0) sc_law_digits.nd rfl (Or.inl rfl) (pe_op op_fdiv (pv 0) pe_int)))))
      (pss_one (ps_ret (pv 2)))) pss_nil)
      (pss_cons (ps_set (i := 4) sc_law_digits.nd rfl (Or.inl rfl) (pe_op op_mod (pe_callTy cr_intI rfl T.z_int (by decide +kernel) (pa_cons (pe_op op_add (pe_op op_mul (pv 0) pe_int) pe_int) pa_nil)) pe_int))
      (pss_cons (ps_for PassesOwn.never rfl (pi_range1 rfl T.z_range (pa_cons (pv 1) pa_nil)) (pg_name (i := 3) sc_law_digits.nd rfl (Or.inl rfl))
      (pss_cons (ps_set (i := 4) sc_law_digits.nd rfl (Or.inl rfl) (pe_op op_mod (pe_callTy cr_intI rfl T.z_int (by decide +kernel) (pa_cons (pe_op op_add (pe_op op_add (pe_op op_mul (pv 4) pe_int) (pe_op op_mul pe_int (pv 3))) pe_int) pa_nil)) pe_int))
      (pss_one (ps_expr (pe_bm PySem.F.plainAttrs_list PySem.F.slot_list_append PySem.F.type_list_append mt_append (pv 2) (pa_cons (pe_op op_mod (pe_callTy cr_intI rfl T.z_int (by decide +kernel) (pa_cons (pe_op op_fdiv (pv 4) pe_int) pa_nil)) pe_int) pa_nil))))))
      (pss_one (ps_ret (pv 2)))))))
theorem ok_law_pair {P : Program} {w : World} {K : PySem.W.Frag} {mg : Str → Option Value} {base : Heap} (T : Txt K mg) (D_law_digits : O_law_digits P w K mg base) : O_law_pair P w K mg base := by
  obtain ⟨fd_law_digits, X_law_digits, G_law_digits⟩ := D_law_digits.ex
  have K_law_digits := X_law_digits.kp
  have B_law_digits := X_law_digits.bindsN (ps := ["cell", "count"]) fun _ _ _ _ _ _ us hl => match us, hl with | [_, _], _ => rfl
  have V_law_digits : Vals [] [] := .nil
  obtain ⟨fd, X⟩ := T.d_law_pair
  refine ⟨fd, X, X.ok sc_law_pair (fun vs H Q E h => len_law_pair h) (fun cdv A outer s H vs Q E hr h => ⟨t_law_pair K E, PSs.nox ?_, pure_law_pair vs H Q E h⟩)⟩
  exact (pss_cons (ps_set (i := 2) sc_law_pair.nd rfl (Or.inl rfl) (pe_call G_law_digits (hr.mono (by decide)) rfl T.g__law_digits K_law_digits B_law_digits V_law_digits pass0 (pa_cons (pv 1) (pa_cons pe_int pa_nil))))
      (pss_cons (ps_set (i := 3) sc_law_pair.nd rfl (Or.inl rfl) (pe_op op_mod (pe_callTy cr_intI rfl T.z_int (by decide +kernel) (pa_cons (pe_ix ix_list (pv 2) pe_int (fun _ _ => rfl)) pa_nil)) pe_int))
      (pss_cons (ps_set (i := 4) sc_law_pair.nd rfl (Or.inl rfl) (pe_callB (cr_min2 rfl) rfl T.z_min (by decide +kernel) (pa_cons (pe_op op_pow pe_int pe_int) (pa_cons (pe_op op_shl pe_int (pe_op op_mod (pe_callTy cr_intI rfl T.z_int (by decide +kernel) (pa_cons (pe_ix ix_list (pv 2) pe_int (fun _ _ => rfl)) pa_nil)) pe_int)) pa_nil))))
      (pss_cons (ps_set (i := 5) sc_law_pair.nd rfl (Or.inl rfl) (pe_op op_sub (pe_op op_mod (pe_callTy cr_intI rfl T.z_int (by decide +kernel) (pa_cons (pv 0) pa_nil)) (pe_op op_add (pe_op op_mul pe_int (pv 4)) pe_int)) (pv 4)))
      (Evl.pss_cut (ps_if (pt_cmpR op_eq (pe_op op_mod (pe_callTy cr_intI rfl T.z_int (by decide +kernel) (pa_cons (pe_ix ix_list (pv 2) pe_int (fun _ _ => rfl)) pa_nil)) pe_int) pe_int (nomark _)) (pss_cons (ps_set (i := 6) sc_law_pair.nd rfl (Or.inl rfl) (pe_op op_shl (pe_op op_shr (pe_callB cr_absI rfl T.z_abs (by decide +kernel) (pa_cons (pv 5) pa_nil)) (pe_op op_mod (pe_callTy cr_intI rfl T.z_int (by decide +kernel) (pa_cons (pe_ix ix_list (pv 2) pe_int (fun _ _ => rfl)) pa_nil)) pe_int)) (pe_op op_mod (pe_callTy cr_intI rfl T.z_int (by decide +kernel) (pa_cons (pe_ix ix_list (pv 2) pe_int (fun _ _ => rfl)) pa_nil)) pe_int)))
      (pss_one (ps_set (i := 5) sc_law_pair.nd rfl (Or.inl rfl) (pe_ifExp (pt_cmpR op_gt (pv 5) pe_int (nomark _)) (pv 6) (pe_un un_neg (pv 6)))))) pss_nil)
      (Evl.pss_cut (ps_if (pt_cmpR op_eq (pe_op op_mod (pe_callTy cr_intI rfl T.z_int (by decide +kernel) (pa_cons (pe_ix ix_list (pv 2) pe_int (fun _ _ => rfl)) pa_nil)) pe_int) pe_int (nomark _)) (pss_one (ps_set (i := 5) sc_law_pair.nd rfl (Or.inl rfl) (pe_ix ix_list (pe_lst (pa_cons pe_int (pa_cons pe_int (pa_cons (pe_un un_neg pe_int) (pa_cons (pe_op op_pow pe_int pe_int) (pa_cons (pe_un un_neg (pe_op op_pow pe_int pe_int)) (pa_cons (pe_op op_sub (pe_op op_pow pe_int pe_int) pe_int) (pa_cons (pe_op op_sub pe_int (pe_op op_pow pe_int pe_int)) pa_nil)))))))) (pe_op op_mod (pe_callTy cr_intI rfl T.z_int (by decide +kernel) (pa_cons (pe_ix ix_list (pv 2) pe_int (fun _ _ => rfl)) pa_nil)) pe_int) (fun _ _ => rfl)))) pss_nil)
      (pss_one (ps_ret (pe_tup (pa_cons (pv 5) (pa_cons (pv 3) pa_nil)))))))))))
theorem ok_law_cell {P : Program} {w : World} {K : PySem.W.Frag} {mg : Str → Option Value} {base : Heap} (T : Txt K mg)  : O_law_cell P w K mg base := by
  obtain ⟨fd, X⟩ := T.d_law_cell
  refine ⟨fd, X, X.ok sc_law_cell (fun vs H Q E h => len_law_cell h) (fun cdv A outer s H vs Q E hr h => ⟨t_law_cell K E, PSs.nox ?_, pure_law_cell vs H Q E h⟩)⟩
  exact (pss_cons (ps_if (pt_cmpR op_lt (pv 1) (pe_callB cr_lenQ rfl T.z_len (by decide +kernel) (pa_cons (pv 0) pa_nil)) (nomark _)) (pss_one (ps_ret (pe_ix ix_list (pv 0) (pv 1) (fun _ _ => rfl)))) pss_nil)
      (pss_cons (ps_set (i := 2) sc_law_cell.nd rfl (Or.inl rfl) (pe_op op_add (pe_op op_mul pe_int (pv 1)) pe_int))
      (pss_cons (ps_for PassesOwn.never rfl (pi_list (pv 0)) (pg_name (i := 3) sc_law_cell.nd rfl (Or.inl rfl))
      (pss_one (ps_set (i := 2) sc_law_cell.nd rfl (Or.inl rfl) (pe_op op_mod (pe_callTy cr_intI rfl T.z_int (by decide +kernel) (pa_cons (pe_op op_add (pe_op op_mul (pv 2) pe_int) (pv 3)) pa_nil)) pe_int))))
      (pss_one (ps_ret (pv 2))))))
theorem ok_is_whole {P : Program} {w : World} {K : PySem.W.Frag} {mg : Str → Option Value} {base : Heap} (T : Txt K mg)  : O_is_whole P w K mg base := by
  obtain ⟨fd, X⟩ := T.d_is_whole
  refine ⟨fd, X, X.ok sc_is_whole (fun vs H Q E h => len_is_whole h) (fun cdv A outer s H vs Q E hr h => ⟨t_is_whole K E, PSs.nox ?_, pure_is_whole vs H Q E h⟩)⟩
  exact (pss_one (ps_ret (pe_and (pe_cmpR op_isTyB (pe_callTy call_type1 rfl T.z_type (by decide +kernel) (pa_cons (pv 0) pa_nil)) (pe_bltn rfl T.z_int (by decide +kernel) rfl) (nomark _)) (pe_one (pe_chain op_le op_le (pv 1) (pv 0) (pv 2))))))
theorem ok_plain {P : Program} {w : World} {K : PySem.W.Frag} {mg : Str → Option Value} {base : Heap} (T : Txt K mg)  : O_plain P w K mg base := by
  obtain ⟨fd, X⟩ := T.d_plain
  refine ⟨fd, X, X.ok sc_plain (fun vs H Q E h => len_plain h) (fun cdv A outer s H vs Q E hr h => ⟨t_plain K E, PSs.nox ?_, pure_plain vs H Q E h⟩)⟩
  exact (pss_cons (ps_while PassesOwn.never (PW.pt (pw_and (pt_cmpR op_gt (pv 1) pe_int (nomark _)) (pw_and1 (pt_cmpR op_eq (pe_op op_and (pv 0) pe_int) pe_int (nomark _))))) (pss_cons (ps_set (i := 0) sc_plain.nd rfl (Or.inl rfl) (pe_op op_shr (pv 0) pe_int))
      (pss_one (ps_set (i := 1) sc_plain.nd rfl (Or.inl rfl) (pe_op op_sub (pv 1) pe_int)))))
      (pss_one (ps_ret (pe_tup (pa_cons (pv 0) (pa_cons (pv 1) pa_nil))))))
theorem ok_Dyadic_d_init {P : Program} {w : World} {K : PySem.W.Frag} {mg : Str → Option Value} {base : Heap} (T : Txt K mg) (D_is_whole : O_is_whole P w K mg base) (D_plain : O_plain P w K mg base) : O_Dyadic_d_init P w K mg base := by
  obtain ⟨fd_is_whole, X_is_whole, G_is_whole⟩ := D_is_whole.ex
  have K_is_whole := X_is_whole.kp
  have B_is_whole := X_is_whole.bindsN (ps := ["thing", "least", "most"]) fun _ _ _ _ _ _ us hl => match us, hl with | [_, _, _], _ => rfl
  have V_is_whole : Vals [] [] := .nil
  obtain ⟨fd_plain, X_plain, G_plain⟩ := D_plain.ex
  have K_plain := X_plain.kp
  have B_plain := X_plain.bindsN (ps := ["top", "power"]) fun _ _ _ _ _ _ us hl => match us, hl with | [_, _], _ => rfl
  have V_plain : Vals [] [] := .nil
  obtain ⟨fd, X⟩ := T.d_Dyadic_d_init
  refine ⟨fd, X, X.ok sc_Dyadic_d_init (fun vs H Q E h => len_Dyadic_d_init h) (fun cdv A outer s H vs Q E hr h => ⟨t_Dyadic_d_init K E, ?_, pure_Dyadic_d_init T.FDyadic vs H Q E h⟩)⟩
  exact (pss_cons (ps_if (pt_not (pt_val (pe_call G_is_whole (hr.mono (by decide)) rfl T.g_is_whole K_is_whole B_is_whole V_is_whole pass0 (pa_cons (pv 1) (pa_cons (pe_un un_neg (C8.pe_gc rfl (cst_ok T.c_MOST_TOP))) (pa_cons (C8.pe_gc rfl (cst_ok T.c_MOST_TOP)) pa_nil)))))) (pss_one (ps_raise rfl (takes_of rfl rfl rfl rfl) (pmk_own PySem.F.excBase_ValueError T.x_BadValue.1 T.g_BadValue T.x_BadValue.2.1 (raises_own T.x_BadValue.2.2.1 T.x_BadValue.2.2.2) (by exact rfl)))) pss_nil)
      (pss_cons (ps_if (pt_not (pt_val (pe_call G_is_whole (hr.mono (by decide)) rfl T.g_is_whole K_is_whole B_is_whole V_is_whole pass0 (pa_cons (pv 2) (pa_cons pe_int (pa_cons (C8.pe_gc rfl (cst_ok T.c_MOST_POWER)) pa_nil)))))) (pss_one (ps_raise rfl (takes_of rfl rfl rfl rfl) (pmk_own PySem.F.excBase_ValueError T.x_BadValue.1 T.g_BadValue T.x_BadValue.2.1 (raises_own T.x_BadValue.2.2.1 T.x_BadValue.2.2.2) (by exact rfl)))) pss_nil)
      (pss_one (ps_asg (pe_call G_plain (hr.mono (by decide)) rfl T.g__plain K_plain B_plain V_plain pass0 (pa_cons (pv 1) (pa_cons (pv 2) pa_nil))) (pg_tup rfl (pgs_cons (pg_fld (pv 0)) (pgs_cons (pg_fld (pv 0)) pgs_nil)))))))
theorem ok_Dyadic_m_text {P : Program} {w : World} {K : PySem.W.Frag} {mg : Str → Option Value} {base : Heap} (T : Txt K mg)  : O_Dyadic_m_text P w K mg base := by
  obtain ⟨fd, X⟩ := T.d_Dyadic_m_text
  refine ⟨fd, X, X.ok sc_Dyadic_m_text (fun vs H Q E h => len_Dyadic_m_text h) (fun cdv A outer s H vs Q E hr h => ⟨t_Dyadic_m_text K E, PSs.nox ?_, pure_Dyadic_m_text T.FDyadic vs H Q E h⟩)⟩
  exact (pss_cons (ps_if (pt_cmpR op_eq (pe_fld (pv 0) rfl) pe_int (nomark _)) (pss_one (ps_ret (pe_callTy cr_strI rfl T.z_str (by decide +kernel) (pa_cons (pe_fld (pv 0) rfl) pa_nil)))) pss_nil)
      (pss_one (ps_ret (pe_joined (PJ.cons (pe_fmt (pe_fld (pv 0) rfl)) (PJ.cons pe_str (PJ.cons (pe_fmt (pe_op op_shl pe_int (pe_fld (pv 0) rfl))) PJ.nil)))))))
theorem ok_law_plain {P : Program} {w : World} {K : PySem.W.Frag} {mg : Str → Option Value} {base : Heap} (T : Txt K mg)  : O_law_plain P w K mg base := by
  obtain ⟨fd, X⟩ := T.d_law_plain
  refine ⟨fd, X, X.ok sc_law_plain (fun vs H Q E h => len_law_plain h) (fun cdv A outer s H vs Q E hr h => ⟨t_law_plain K E, PSs.nox ?_, pure_law_plain vs H Q E h⟩)⟩
  exact (pss_cons (ps_for PassesOwn.never rfl (pi_range1 rfl T.z_range (pa_cons pe_int pa_nil)) (pg_name (i := 2) sc_law_plain.nd rfl (Or.inl rfl))
      (pss_one (ps_if (PW.pt (pw_and (pt_cmpR op_gt (pv 1) pe_int (nomark _)) (pw_and1 (pt_cmpR op_eq (pe_op op_mod (pe_callTy cr_intI rfl T.z_int (by decide +kernel) (pa_cons (pv 0) pa_nil)) pe_int) pe_int (nomark _))))) (pss_cons (ps_set (i := 0) sc_law_plain.nd rfl (Or.inl rfl) (pe_op op_fdiv (pv 0) pe_int))
      (pss_one (ps_set (i := 1) sc_law_plain.nd rfl (Or.inl rfl) (pe_op op_sub (pv 1) pe_int)))) pss_nil)))
      (pss_one (ps_ret (pe_tup (pa_cons (pv 0) (pa_cons (pv 1) pa_nil))))))
theorem ok_law_text {P : Program} {w : World} {K : PySem.W.Frag} {mg : Str → Option Value} {base : Heap} (T : Txt K mg) (D_law_plain : O_law_plain P w K mg base) : O_law_text P w K mg base := by
  obtain ⟨fd_law_plain, X_law_plain, G_law_plain⟩ := D_law_plain.ex
  have K_law_plain := X_law_plain.kp
  have B_law_plain := X_law_plain.bindsN (ps := ["top", "power"]) fun _ _ _ _ _ _ us hl => match us, hl with | [_, _], _ => rfl
  have V_law_plain : Vals [] [] := .nil
  obtain ⟨fd, X⟩ := T.d_law_text
  refine ⟨fd, X, X.ok sc_law_text (fun vs H Q E h => len_law_text h) (fun cdv A outer s H vs Q E hr h => ⟨t_law_text K E, PSs.nox ?_, pure_law_text vs H Q E h⟩)⟩
  exact (pss_cons (ps_set (i := 2) sc_law_text.nd rfl (Or.inl rfl) (pe_call G_law_plain (hr.mono (by decide)) rfl T.g__law_plain K_law_plain B_law_plain V_law_plain pass0 (pa_cons (pv 0) (pa_cons (pv 1) pa_nil))))
      (pss_cons (ps_if (pt_cmpR op_eq (pe_ix ix_tup (pv 2) pe_int (fun _ _ => rfl)) pe_int (nomark _)) (pss_one (ps_ret (pe_callTy cr_strI rfl T.z_str (by decide +kernel) (pa_cons (pe_ix ix_tup (pv 2) pe_int (fun _ _ => rfl)) pa_nil)))) pss_nil)
      (pss_one (ps_ret (pe_op op_add_str (pe_op op_add_str (pe_callTy cr_strI rfl T.z_str (by decide +kernel) (pa_cons (pe_ix ix_tup (pv 2) pe_int (fun _ _ => rfl)) pa_nil)) pe_str) (pe_callTy cr_strI rfl T.z_str (by decide +kernel) (pa_cons (pe_op op_shl pe_int (pe_ix ix_tup (pv 2) pe_int (fun _ _ => rfl))) pa_nil)))))))
theorem ok_are_digits {P : Program} {w : World} {K : PySem.W.Frag} {mg : Str → Option Value} {base : Heap} (T : Txt K mg)  : O_are_digits P w K mg base := by
  obtain ⟨fd, X⟩ := T.d_are_digits
  refine ⟨fd, X, X.ok sc_are_digits (fun vs H Q E h => len_are_digits h) (fun cdv A outer s H vs Q E hr h => ⟨t_are_digits K E, PSs.nox ?_, pure_are_digits vs H Q E h⟩)⟩
  exact (pss_one (ps_ret (pe_and (pe_cmpR op_ne (pv 0) pe_str (nomark _)) (pe_one (pe_callB (cr_all rfl) rfl T.z_all (by decide +kernel) (pa_cons (pe_lc (own := [("sign", 1)]) (g := (gName 1)) (tt := tYes) rfl sc_are_digits.nd (pi_str (pv 0)) (blkOk_by (N := R_are_digits) (sc := defScope s_are_digits) (by decide +kernel)) (fun _ _ _ _ _ => (pg_name (i := 1) sc_are_digits.nd rfl (Or.inl rfl))) (fun _ _ _ _ _ => pts_nil) (fun _ _ _ _ _ => (pe_cmpR op_inS (pv 1) pe_str (by rfl)))) pa_nil))))))
theorem ok_read_top {P : Program} {w : World} {K : PySem.W.Frag} {mg : Str → Option Value} {base : Heap} (T : Txt K mg) (D_are_digits : O_are_digits P w K mg base) (D_is_whole : O_is_whole P w K mg base) : O_read_top P w K mg base := by
  obtain ⟨fd_are_digits, X_are_digits, G_are_digits⟩ := D_are_digits.ex
  have K_are_digits := X_are_digits.kp
  have B_are_digits := X_are_digits.bindsN (ps := ["text"]) fun _ _ _ _ _ _ us hl => match us, hl with | [_], _ => rfl
  have V_are_digits : Vals [] [] := .nil
  obtain ⟨fd_is_whole, X_is_whole, G_is_whole⟩ := D_is_whole.ex
  have K_is_whole := X_is_whole.kp
  have B_is_whole := X_is_whole.bindsN (ps := ["thing", "least", "most"]) fun _ _ _ _ _ _ us hl => match us, hl with | [_, _, _], _ => rfl
  have V_is_whole : Vals [] [] := .nil
  obtain ⟨fd, X⟩ := T.d_read_top
  refine ⟨fd, X, X.ok sc_read_top (fun vs H Q E h => len_read_top h) (fun cdv A outer s H vs Q E hr h => ⟨t_read_top K E, PSs.nox ?_, pure_read_top vs H Q E h⟩)⟩
  exact (pss_cons (ps_set (i := 1) sc_read_top.nd rfl (Or.inl rfl) (pe_bm PySem.F.plainAttrs_str PySem.F.slot_str_removeprefix PySem.F.type_str_removeprefix mt_removeprefix (pv 0) (pa_cons pe_str pa_nil)))
      (pss_cons (ps_if (PW.pt (pw_or (pt_cmpR op_gt (pe_callB cr_lenS rfl T.z_len (by decide +kernel) (pa_cons (pv 0) pa_nil)) (C8.pe_gc rfl (cst_ok T.c_LONGEST_TOP)) (nomark _)) (pw_or1 (pt_not (pt_val (pe_call G_are_digits (hr.mono (by decide)) rfl T.g__are_digits K_are_digits B_are_digits V_are_digits pass0 (pa_cons (pv 1) pa_nil))))))) (pss_one (ps_ret pe_non)) pss_nil)
      (pss_cons (ps_set (i := 2) sc_read_top.nd rfl (Or.inl rfl) (pe_callTy call_int_str rfl T.z_int (by decide +kernel) (pa_cons (pv 0) pa_nil)))
      (pss_one (ps_ret (pe_ifExp (pt_val (pe_call G_is_whole (hr.mono (by decide)) rfl T.g_is_whole K_is_whole B_is_whole V_is_whole pass0 (pa_cons (pv 2) (pa_cons (pe_un un_neg (C8.pe_gc rfl (cst_ok T.c_MOST_TOP))) (pa_cons (C8.pe_gc rfl (cst_ok T.c_MOST_TOP)) pa_nil))))) (pv 2) pe_non))))))
theorem ok_read_power {P : Program} {w : World} {K : PySem.W.Frag} {mg : Str → Option Value} {base : Heap} (T : Txt K mg)  : O_read_power P w K mg base := by
  obtain ⟨fd, X⟩ := T.d_read_power
  refine ⟨fd, X, X.ok sc_read_power (fun vs H Q E h => len_read_power h) (fun cdv A outer s H vs Q E hr h => ⟨t_read_power K E, PSs.nox ?_, pure_read_power vs H Q E h⟩)⟩
  exact (pss_cons (ps_for PassesOwn.never rfl (pi_range2 rfl T.z_range (pa_cons pe_int (pa_cons (pe_op op_add (C8.pe_gc rfl (cst_ok T.c_MOST_POWER)) pe_int) pa_nil))) (pg_name (i := 1) sc_read_power.nd rfl (Or.inl rfl))
      (pss_one (ps_if (pt_cmpR op_eq (pe_callTy cr_strI rfl T.z_str (by decide +kernel) (pa_cons (pe_op op_shl pe_int (pv 1)) pa_nil)) (pv 0) (nomark _)) (pss_one (ps_ret (pv 1))) pss_nil)))
      (pss_one (ps_ret pe_non)))
theorem ok_Dyadic_m_from_text {P : Program} {w : World} {K : PySem.W.Frag} {mg : Str → Option Value} {base : Heap} (T : Txt K mg) (D_read_top : O_read_top P w K mg base) (D_read_power : O_read_power P w K mg base) (D_Dyadic_d_init : O_Dyadic_d_init P w K mg base) (D_Dyadic_m_text : O_Dyadic_m_text P w K mg base) : O_Dyadic_m_from_text P w K mg base := by
  obtain ⟨fd_read_top, X_read_top, G_read_top⟩ := D_read_top.ex
  have K_read_top := X_read_top.kp
  have B_read_top := X_read_top.bindsN (ps := ["text"]) fun _ _ _ _ _ _ us hl => match us, hl with | [_], _ => rfl
  have V_read_top : Vals [] [] := .nil
  obtain ⟨fd_read_power, X_read_power, G_read_power⟩ := D_read_power.ex
  have K_read_power := X_read_power.kp
  have B_read_power := X_read_power.bindsN (ps := ["text"]) fun _ _ _ _ _ _ us hl => match us, hl with | [_], _ => rfl
  have V_read_power : Vals [] [] := .nil
  obtain ⟨fd_Dyadic_d_init, X_Dyadic_d_init, G_Dyadic_d_init⟩ := D_Dyadic_d_init.ex
  have K_Dyadic_d_init := X_Dyadic_d_init.kp
  obtain ⟨W_Dyadic_d_init_3, V_Dyadic_d_init_3, B_Dyadic_d_init_3⟩ := X_Dyadic_d_init.binds1 (ps := ["self", "top", "power"]) 3 1 (List.cons_ne_nil _ _) rfl fun _ _ _ _ _ _ _ us its hl hm => match us, its, hl, hm with | [_, _, _], [_], _, _ => ⟨_, rfl, rfl⟩
  obtain ⟨fd_Dyadic_m_text, X_Dyadic_m_text, G_Dyadic_m_text⟩ := D_Dyadic_m_text.ex
  have K_Dyadic_m_text := X_Dyadic_m_text.kp
  have B_Dyadic_m_text := X_Dyadic_m_text.bindsN (ps := ["self"]) fun _ _ _ _ _ _ us hl => match us, hl with | [_], _ => rfl
  have V_Dyadic_m_text : Vals [] [] := .nil
  obtain ⟨fd, X⟩ := T.d_Dyadic_m_from_text
  refine ⟨fd, X, X.ok sc_Dyadic_m_from_text (fun vs H Q E h => len_Dyadic_m_from_text h) (fun cdv A outer s H vs Q E hr h => ⟨t_Dyadic_m_from_text K E, PSs.nox ?_, pure_Dyadic_m_from_text vs H Q E h⟩)⟩
  exact (pss_cons (ps_if (pt_cmpR op_notTyB (pe_callTy call_type1 rfl T.z_type (by decide +kernel) (pa_cons (pv 0) pa_nil)) (pe_bltn rfl T.z_str (by decide +kernel) rfl) (nomark _)) (pss_one ps_never) pss_nil)
      (pss_cons (ps_asg (pe_bm PySem.F.plainAttrs_str PySem.F.slot_str_partition PySem.F.type_str_partition mt_partition (pv 0) (pa_cons pe_str pa_nil)) (pg_tup rfl (pgs_cons (pg_name (i := 1) sc_Dyadic_m_from_text.nd rfl (Or.inl rfl)) (pgs_cons (pg_name (i := 2) sc_Dyadic_m_from_text.nd rfl (Or.inl rfl)) (pgs_cons (pg_name (i := 3) sc_Dyadic_m_from_text.nd rfl (Or.inl rfl)) pgs_nil)))))
      (pss_cons (ps_set (i := 4) sc_Dyadic_m_from_text.nd rfl (Or.inl rfl) (pe_call G_read_top (hr.mono (by decide)) rfl T.g__read_top K_read_top B_read_top V_read_top pass0 (pa_cons (pv 1) pa_nil)))
      (pss_cons (ps_set (i := 5) sc_Dyadic_m_from_text.nd rfl (Or.inl rfl) (pe_ifExp (pt_truth (pv 2) (by intro _; rfl)) (pe_call G_read_power (hr.mono (by decide)) rfl T.g__read_power K_read_power B_read_power V_read_power pass0 (pa_cons (pv 3) pa_nil)) pe_int))
      (pss_cons (ps_if (PW.pt (pw_or (pt_cmpR op_isN1 (pv 4) pe_non (nomark _)) (pw_or1 (pt_cmpR op_isN1 (pv 5) pe_non (nomark _))))) (pss_one ps_never) pss_nil)
      (pss_cons (ps_set (i := 6) sc_Dyadic_m_from_text.nd rfl (Or.inl rfl) (pe_make T.mk_Dyadic G_Dyadic_d_init (hr.mono (by decide)) rfl T.g_Dyadic B_Dyadic_d_init_3 V_Dyadic_d_init_3 passL (pa_cons (pv 4) (pa_cons (pv 5) pa_nil))))
      (pss_cons (ps_if (pt_cmpR op_ne (pe_meth0 (pv 6) T.cl_Dyadic T.mt_Dyadic_text G_Dyadic_m_text (hr.mono (by decide)) B_Dyadic_m_text .nil pass0) (pv 0) (nomark _)) (pss_one ps_never) pss_nil)
      (pss_one (ps_ret (pv 6))))))))))
theorem ok_law_is_integer {P : Program} {w : World} {K : PySem.W.Frag} {mg : Str → Option Value} {base : Heap} (T : Txt K mg)  : O_law_is_integer P w K mg base := by
  obtain ⟨fd, X⟩ := T.d_law_is_integer
  refine ⟨fd, X, X.ok sc_law_is_integer (fun vs H Q E h => len_law_is_integer h) (fun cdv A outer s H vs Q E hr h => ⟨t_law_is_integer K E, PSs.nox ?_, pure_law_is_integer vs H Q E h⟩)⟩
  exact (pss_one (ps_ret (pe_and (pe_callB call_isi rfl T.z_isinstance (by decide +kernel) (pa_cons (pv 0) (pa_cons (pe_bltn rfl T.z_int (by decide +kernel) rfl) pa_nil))) (pe_one (pe_not (pe_callB call_isi rfl T.z_isinstance (by decide +kernel) (pa_cons (pv 0) (pa_cons (pe_bltn rfl T.z_bool (by decide +kernel) rfl) pa_nil))))))))
theorem ok_Dyadic_m_top {P : Program} {w : World} {K : PySem.W.Frag} {mg : Str → Option Value} {base : Heap} (T : Txt K mg)  : O_Dyadic_m_top P w K mg base := by
  obtain ⟨fd, X⟩ := T.d_Dyadic_m_top
  refine ⟨fd, X, X.ok sc_Dyadic_m_top (fun vs H Q E h => len_Dyadic_m_top h) (fun cdv A outer s H vs Q E hr h => ⟨t_Dyadic_m_top K E, PSs.nox ?_, pure_Dyadic_m_top T.FDyadic vs H Q E h⟩)⟩
  exact (pss_one (ps_ret (pe_fld (pv 0) rfl)))
theorem ok_Dyadic_m_power {P : Program} {w : World} {K : PySem.W.Frag} {mg : Str → Option Value} {base : Heap} (T : Txt K mg)  : O_Dyadic_m_power P w K mg base := by
  obtain ⟨fd, X⟩ := T.d_Dyadic_m_power
  refine ⟨fd, X, X.ok sc_Dyadic_m_power (fun vs H Q E h => len_Dyadic_m_power h) (fun cdv A outer s H vs Q E hr h => ⟨t_Dyadic_m_power K E, PSs.nox ?_, pure_Dyadic_m_power T.FDyadic vs H Q E h⟩)⟩
  exact (pss_one (ps_ret (pe_fld (pv 0) rfl)))
theorem ok_law_holds {P : Program} {w : World} {K : PySem.W.Frag} {mg : Str → Option Value} {base : Heap} (T : Txt K mg) (D_law_plain : O_law_plain P w K mg base) (D_law_is_integer : O_law_is_integer P w K mg base) (D_Dyadic_m_top : O_Dyadic_m_top P w K mg base) (D_Dyadic_m_power : O_Dyadic_m_power P w K mg base) : O_law_holds P w K mg base := by
  obtain ⟨fd_law_plain, X_law_plain, G_law_plain⟩ := D_law_plain.ex
  have K_law_plain := X_law_plain.kp
  have B_law_plain := X_law_plain.bindsN (ps := ["top", "power"]) fun _ _ _ _ _ _ us hl => match us, hl with | [_, _], _ => rfl
  have V_law_plain : Vals [] [] := .nil
  obtain ⟨fd_law_is_integer, X_law_is_integer, G_law_is_integer⟩ := D_law_is_integer.ex
  have K_law_is_integer := X_law_is_integer.kp
  have B_law_is_integer := X_law_is_integer.bindsN (ps := ["thing"]) fun _ _ _ _ _ _ us hl => match us, hl with | [_], _ => rfl
  have V_law_is_integer : Vals [] [] := .nil
  obtain ⟨fd_Dyadic_m_top, X_Dyadic_m_top, G_Dyadic_m_top⟩ := D_Dyadic_m_top.ex
  have K_Dyadic_m_top := X_Dyadic_m_top.kp
  have B_Dyadic_m_top := X_Dyadic_m_top.bindsN (ps := ["self"]) fun _ _ _ _ _ _ us hl => match us, hl with | [_], _ => rfl
  have V_Dyadic_m_top : Vals [] [] := .nil
  obtain ⟨fd_Dyadic_m_power, X_Dyadic_m_power, G_Dyadic_m_power⟩ := D_Dyadic_m_power.ex
  have K_Dyadic_m_power := X_Dyadic_m_power.kp
  have B_Dyadic_m_power := X_Dyadic_m_power.bindsN (ps := ["self"]) fun _ _ _ _ _ _ us hl => match us, hl with | [_], _ => rfl
  have V_Dyadic_m_power : Vals [] [] := .nil
  obtain ⟨fd, X⟩ := T.d_law_holds
  refine ⟨fd, X, X.ok sc_law_holds (fun vs H Q E h => len_law_holds h) (fun cdv A outer s H vs Q E hr h => ⟨t_law_holds K E, PSs.nox ?_, pure_law_holds vs H Q E h⟩)⟩
  exact (pss_cons (ps_set (i := 3) sc_law_holds.nd rfl (Or.inl rfl) (pe_call G_law_plain (hr.mono (by decide)) rfl T.g__law_plain K_law_plain B_law_plain V_law_plain pass0 (pa_cons (pv 1) (pa_cons (pv 2) pa_nil))))
      (pss_cons (ps_if (PW.pt (pw_or (pt_not (pt_val (pe_callB (cr_isC T.ic_Dyadic) rfl T.z_isinstance (by decide +kernel) (pa_cons (pv 0) (pa_cons (C8.pe_gc rfl ⟨_, T.g_Dyadic, rfl⟩) pa_nil))))) (pw_or (pt_not (pt_val (pe_call G_law_is_integer (hr.mono (by decide)) rfl T.g__law_is_integer K_law_is_integer B_law_is_integer V_law_is_integer pass0 (pa_cons (pe_prop (pv 0) T.cl_Dyadic T.pr_Dyadic_top G_Dyadic_m_top (hr.mono (by decide)) B_Dyadic_m_top .nil pass0 (by rfl)) pa_nil)))) (pw_or1 (pt_not (pt_val (pe_call G_law_is_integer (hr.mono (by decide)) rfl T.g__law_is_integer K_law_is_integer B_law_is_integer V_law_is_integer pass0 (pa_cons (pe_prop (pv 0) T.cl_Dyadic T.pr_Dyadic_power G_Dyadic_m_power (hr.mono (by decide)) B_Dyadic_m_power .nil pass0 (by rfl)) pa_nil)))))))) (pss_one (ps_ret pe_bl)) pss_nil)
      (pss_one (ps_ret (pe_and (pe_cmpR op_eq (pe_prop (pv 0) T.cl_Dyadic T.pr_Dyadic_top G_Dyadic_m_top (hr.mono (by decide)) B_Dyadic_m_top .nil pass0 (by rfl)) (pe_ix ix_tup (pv 3) pe_int (fun _ _ => rfl)) (nomark _)) (pe_one (pe_cmpR op_eq (pe_prop (pv 0) T.cl_Dyadic T.pr_Dyadic_power G_Dyadic_m_power (hr.mono (by decide)) B_Dyadic_m_power .nil pass0 (by rfl)) (pe_ix ix_tup (pv 3) pe_int (fun _ _ => rfl)) (nomark _))))))))
theorem ok_law_read_back {P : Program} {w : World} {K : PySem.W.Frag} {mg : Str → Option Value} {base : Heap} (T : Txt K mg) (D_Dyadic_m_text : O_Dyadic_m_text P w K mg base) (D_law_text : O_law_text P w K mg base) (D_Dyadic_m_from_text : O_Dyadic_m_from_text P w K mg base) (D_law_holds : O_law_holds P w K mg base) : O_law_read_back P w K mg base := by
  obtain ⟨fd_Dyadic_m_text, X_Dyadic_m_text, G_Dyadic_m_text⟩ := D_Dyadic_m_text.ex
  have K_Dyadic_m_text := X_Dyadic_m_text.kp
  have B_Dyadic_m_text := X_Dyadic_m_text.bindsN (ps := ["self"]) fun _ _ _ _ _ _ us hl => match us, hl with | [_], _ => rfl
  have V_Dyadic_m_text : Vals [] [] := .nil
  obtain ⟨fd_law_text, X_law_text, G_law_text⟩ := D_law_text.ex
  have K_law_text := X_law_text.kp
  have B_law_text := X_law_text.bindsN (ps := ["top", "power"]) fun _ _ _ _ _ _ us hl => match us, hl with | [_, _], _ => rfl
  have V_law_text : Vals [] [] := .nil
  obtain ⟨fd_Dyadic_m_from_text, X_Dyadic_m_from_text, G_Dyadic_m_from_text⟩ := D_Dyadic_m_from_text.ex
  have K_Dyadic_m_from_text := X_Dyadic_m_from_text.kp
  have B_Dyadic_m_from_text := X_Dyadic_m_from_text.bindsN (ps := ["text"]) fun _ _ _ _ _ _ us hl => match us, hl with | [_], _ => rfl
  have V_Dyadic_m_from_text : Vals [] [] := .nil
  obtain ⟨fd_law_holds, X_law_holds, G_law_holds⟩ := D_law_holds.ex
  have K_law_holds := X_law_holds.kp
  have B_law_holds := X_law_holds.bindsN (ps := ["number", "top", "power"]) fun _ _ _ _ _ _ us hl => match us, hl with | [_, _, _], _ => rfl
  have V_law_holds : Vals [] [] := .nil
  obtain ⟨fd, X⟩ := T.d_law_read_back
  refine ⟨fd, X, X.ok sc_law_read_back (fun vs H Q E h => len_law_read_back h) (fun cdv A outer s H vs Q E hr h => ⟨t_law_read_back K E, PSs.nox ?_, pure_law_read_back vs H Q E h⟩)⟩
  exact (pss_cons (ps_set (i := 2) sc_law_read_back.nd rfl (Or.inl rfl) (pe_meth0 (pv 0) T.cl_Dyadic T.mt_Dyadic_text G_Dyadic_m_text (hr.mono (by decide)) B_Dyadic_m_text .nil pass0))
      (pss_cons (ps_if (PW.pt (pw_or (pt_not (pt_val (pe_callB call_isi rfl T.z_isinstance (by decide +kernel) (pa_cons (pv 2) (pa_cons (pe_bltn rfl T.z_str (by decide +kernel) rfl) pa_nil))))) (pw_or1 (pt_cmpR op_ne (pv 2) (pe_call G_law_text (hr.mono (by decide)) rfl T.g__law_text K_law_text B_law_text V_law_text pass0 (pa_cons (pe_ix ix_tup (pv 1) pe_int (fun _ _ => rfl)) (pa_cons (pe_ix ix_tup (pv 1) pe_int (fun _ _ => rfl)) pa_nil))) (nomark _))))) (pss_one (ps_ret pe_bl)) pss_nil)
      (pss_cons (ps_set (i := 3) sc_law_read_back.nd rfl (Or.inl rfl) (pe_smeth (C8.pe_gc rfl ⟨_, T.g_Dyadic, rfl⟩) T.st_Dyadic_from_text K_Dyadic_m_from_text G_Dyadic_m_from_text (hr.mono (by decide)) B_Dyadic_m_from_text V_Dyadic_m_from_text pass0 (pa_cons (pv 2) pa_nil)))
      (pss_cons (ps_if (pt_not (pt_val (pe_call G_law_holds (hr.mono (by decide)) rfl T.g__law_holds K_law_holds B_law_holds V_law_holds pass0 (pa_cons (pv 3) (pa_cons (pe_ix ix_tup (pv 1) pe_int (fun _ _ => rfl)) (pa_cons (pe_ix ix_tup (pv 1) pe_int (fun _ _ => rfl)) pa_nil)))))) (pss_one (ps_ret pe_bl)) pss_nil)
      (pss_one (ps_ret (pe_cmpR op_eq (pe_meth0 (pv 3) T.cl_Dyadic T.mt_Dyadic_text G_Dyadic_m_text (hr.mono (by decide)) B_Dyadic_m_text .nil pass0) (pv 2) (nomark _))))))))
theorem ok_law {P : Program} {w : World} {K : PySem.W.Frag} {mg : Str → Option Value} {base : Heap} (T : Txt K mg) (D_law_pair : O_law_pair P w K mg base) (D_law_cell : O_law_cell P w K mg base) (D_Dyadic_d_init : O_Dyadic_d_init P w K mg base) (D_law_read_back : O_law_read_back P w K mg base) (D_Dyadic_m_from_text : O_Dyadic_m_from_text P w K mg base) (D_law_text : O_law_text P w K mg base) (D_law_holds : O_law_holds P w K mg base) : O_law P w K mg base := by
  obtain ⟨fd_law_pair, X_law_pair, G_law_pair⟩ := D_law_pair.ex
  have K_law_pair := X_law_pair.kp
  have B_law_pair := X_law_pair.bindsN (ps := ["cell", "shape"]) fun _ _ _ _ _ _ us hl => match us, hl with | [_, _], _ => rfl
  have V_law_pair : Vals [] [] := .nil
  obtain ⟨fd_law_cell, X_law_cell, G_law_cell⟩ := D_law_cell.ex
  have K_law_cell := X_law_cell.kp
  have B_law_cell := X_law_cell.bindsN (ps := ["script", "k"]) fun _ _ _ _ _ _ us hl => match us, hl with | [_, _], _ => rfl
  have V_law_cell : Vals [] [] := .nil
  obtain ⟨fd_Dyadic_d_init, X_Dyadic_d_init, G_Dyadic_d_init⟩ := D_Dyadic_d_init.ex
  have K_Dyadic_d_init := X_Dyadic_d_init.kp
  obtain ⟨W_Dyadic_d_init_3, V_Dyadic_d_init_3, B_Dyadic_d_init_3⟩ := X_Dyadic_d_init.binds1 (ps := ["self", "top", "power"]) 3 1 (List.cons_ne_nil _ _) rfl fun _ _ _ _ _ _ _ us its hl hm => match us, its, hl, hm with | [_, _, _], [_], _, _ => ⟨_, rfl, rfl⟩
  obtain ⟨fd_law_read_back, X_law_read_back, G_law_read_back⟩ := D_law_read_back.ex
  have K_law_read_back := X_law_read_back.kp
  have B_law_read_back := X_law_read_back.bindsN (ps := ["number", "pair"]) fun _ _ _ _ _ _ us hl => match us, hl with | [_, _], _ => rfl
  have V_law_read_back : Vals [] [] := .nil
  obtain ⟨fd_Dyadic_m_from_text, X_Dyadic_m_from_text, G_Dyadic_m_from_text⟩ := D_Dyadic_m_from_text.ex
  have K_Dyadic_m_from_text := X_Dyadic_m_from_text.kp
  have B_Dyadic_m_from_text := X_Dyadic_m_from_text.bindsN (ps := ["text"]) fun _ _ _ _ _ _ us hl => match us, hl with | [_], _ => rfl
  have V_Dyadic_m_from_text : Vals [] [] := .nil
  obtain ⟨fd_law_text, X_law_text, G_law_text⟩ := D_law_text.ex
  have K_law_text := X_law_text.kp
  have B_law_text := X_law_text.bindsN (ps := ["top", "power"]) fun _ _ _ _ _ _ us hl => match us, hl with | [_, _], _ => rfl
  have V_law_text : Vals [] [] := .nil
  obtain ⟨fd_law_holds, X_law_holds, G_law_holds⟩ := D_law_holds.ex
  have K_law_holds := X_law_holds.kp
  have B_law_holds := X_law_holds.bindsN (ps := ["number", "top", "power"]) fun _ _ _ _ _ _ us hl => match us, hl with | [_, _, _], _ => rfl
  have V_law_holds : Vals [] [] := .nil
  obtain ⟨fd, X⟩ := T.d_law
  refine ⟨fd, X, X.ok sc_law (fun vs H Q E h => len_law h) (fun cdv A outer s H vs Q E hr h => ⟨t_law K E, PSs.nox ?_, pure_law vs H Q E h⟩)⟩
  exact (pss_cons (ps_set (i := 1) sc_law.nd rfl (Or.inl rfl) (pe_call G_law_pair (hr.mono (by decide)) rfl T.g__law_pair K_law_pair B_law_pair V_law_pair pass0 (pa_cons (pe_call G_law_cell (hr.mono (by decide)) rfl T.g__law_cell K_law_cell B_law_cell V_law_cell pass0 (pa_cons (pv 0) (pa_cons pe_int pa_nil))) (pa_cons (pe_call G_law_cell (hr.mono (by decide)) rfl T.g__law_cell K_law_cell B_law_cell V_law_cell pass0 (pa_cons (pv 0) (pa_cons pe_int pa_nil))) pa_nil))))
      (pss_cons (ps_set (i := 2) sc_law.nd rfl (Or.inl rfl) (pe_call G_law_pair (hr.mono (by decide)) rfl T.g__law_pair K_law_pair B_law_pair V_law_pair pass0 (pa_cons (pe_call G_law_cell (hr.mono (by decide)) rfl T.g__law_cell K_law_cell B_law_cell V_law_cell pass0 (pa_cons (pv 0) (pa_cons pe_int pa_nil))) (pa_cons (pe_call G_law_cell (hr.mono (by decide)) rfl T.g__law_cell K_law_cell B_law_cell V_law_cell pass0 (pa_cons (pv 0) (pa_cons pe_int pa_nil))) pa_nil))))
      (pss_cons (ps_set (i := 3) sc_law.nd rfl (Or.inl rfl) (pe_make T.mk_Dyadic G_Dyadic_d_init (hr.mono (by decide)) rfl T.g_Dyadic B_Dyadic_d_init_3 V_Dyadic_d_init_3 passL (pa_cons (pe_ix ix_tup (pv 1) pe_int (fun _ _ => rfl)) (pa_cons (pe_ix ix_tup (pv 1) pe_int (fun _ _ => rfl)) pa_nil))))
      (pss_cons (ps_set (i := 4) sc_law.nd rfl (Or.inl rfl) (pe_make T.mk_Dyadic G_Dyadic_d_init (hr.mono (by decide)) rfl T.g_Dyadic B_Dyadic_d_init_3 V_Dyadic_d_init_3 passL (pa_cons (pe_ix ix_tup (pv 2) pe_int (fun _ _ => rfl)) (pa_cons (pe_ix ix_tup (pv 2) pe_int (fun _ _ => rfl)) pa_nil))))
      (pss_cons (ps_if (PW.pt (pw_or (pt_not (pt_val (pe_call G_law_read_back (hr.mono (by decide)) rfl T.g__law_read_back K_law_read_back B_law_read_back V_law_read_back pass0 (pa_cons (pv 3) (pa_cons (pv 1) pa_nil))))) (pw_or (pt_not (pt_val (pe_call G_law_read_back (hr.mono (by decide)) rfl T.g__law_read_back K_law_read_back B_law_read_back V_law_read_back pass0 (pa_cons (pv 4) (pa_cons (pv 2) pa_nil))))) (pw_or1 (pt_not (pt_val (pe_call G_law_read_back (hr.mono (by decide)) rfl T.g__law_read_back K_law_read_back B_law_read_back V_law_read_back pass0 (pa_cons (pv 3) (pa_cons (pv 1) pa_nil))))))))) (pss_one (ps_ret pe_bl)) pss_nil)
      (pss_cons (ps_set (i := 5) sc_law.nd rfl (Or.inl rfl) (pe_smeth (C8.pe_gc rfl ⟨_, T.g_Dyadic, rfl⟩) T.st_Dyadic_from_text K_Dyadic_m_from_text G_Dyadic_m_from_text (hr.mono (by decide)) B_Dyadic_m_from_text V_Dyadic_m_from_text pass0 (pa_cons (pe_call G_law_text (hr.mono (by decide)) rfl T.g__law_text K_law_text B_law_text V_law_text pass0 (pa_cons (pe_ix ix_tup (pv 2) pe_int (fun _ _ => rfl)) (pa_cons (pe_ix ix_tup (pv 2) pe_int (fun _ _ => rfl)) pa_nil))) pa_nil)))
      (pss_one (ps_ret (pe_and (pe_call G_law_holds (hr.mono (by decide)) rfl T.g__law_holds K_law_holds B_law_holds V_law_holds pass0 (pa_cons (pv 5) (pa_cons (pe_ix ix_tup (pv 2) pe_int (fun _ _ => rfl)) (pa_cons (pe_ix ix_tup (pv 2) pe_int (fun _ _ => rfl)) pa_nil)))) (pe_one (pe_call G_law_holds (hr.mono (by decide)) rfl T.g__law_holds K_law_holds B_law_holds V_law_holds pass0 (pa_cons (pv 3) (pa_cons (pe_ix ix_tup (pv 1) pe_int (fun _ _ => rfl)) (pa_cons (pe_ix ix_tup (pv 1) pe_int (fun _ _ => rfl)) pa_nil))))))))))))))
theorem all_ok {P : Program} {w : World} {K : PySem.W.Frag} {mg : Str → Option Value} {base : Heap} (T : Txt K mg) : O_law P w K mg base := by
  have h_law_digits : O_law_digits P w K mg base := ok_law_digits T 
  have h_law_pair : O_law_pair P w K mg base := ok_law_pair T h_law_digits
  have h_law_cell : O_law_cell P w K mg base := ok_law_cell T 
  have h_is_whole : O_is_whole P w K mg base := ok_is_whole T 
  have h_plain : O_plain P w K mg base := ok_plain T 
  have h_Dyadic_d_init : O_Dyadic_d_init P w K mg base := ok_Dyadic_d_init T h_is_whole h_plain
  have h_Dyadic_m_text : O_Dyadic_m_text P w K mg base := ok_Dyadic_m_text T 
  have h_law_plain : O_law_plain P w K mg base := ok_law_plain T 
  have h_law_text : O_law_text P w K mg base := ok_law_text T h_law_plain
  have h_are_digits : O_are_digits P w K mg base := ok_are_digits T 
  have h_read_top : O_read_top P w K mg base := ok_read_top T h_are_digits h_is_whole
  have h_read_power : O_read_power P w K mg base := ok_read_power T 
  have h_Dyadic_m_from_text : O_Dyadic_m_from_text P w K mg base := ok_Dyadic_m_from_text T h_read_top h_read_power h_Dyadic_d_init h_Dyadic_m_text
  have h_law_is_integer : O_law_is_integer P w K mg base := ok_law_is_integer T 
  have h_Dyadic_m_top : O_Dyadic_m_top P w K mg base := ok_Dyadic_m_top T 
  have h_Dyadic_m_power : O_Dyadic_m_power P w K mg base := ok_Dyadic_m_power T 
  have h_law_holds : O_law_holds P w K mg base := ok_law_holds T h_law_plain h_law_is_integer h_Dyadic_m_top h_Dyadic_m_power
  have h_law_read_back : O_law_read_back P w K mg base := ok_law_read_back T h_Dyadic_m_text h_law_text h_Dyadic_m_from_text h_law_holds
  have h_law : O_law P w K mg base := ok_law T h_law_pair h_law_cell h_Dyadic_d_init h_law_read_back h_Dyadic_m_from_text h_law_text h_law_holds
  exact h_law
def fs : List (PySem.W.Frag → Bool) := [fun K => (He.Fa.glo "BadValue").ok K,
  fun K => (He.Fa.glo "Dyadic").ok K,
  fun K => (He.Fa.glo "_are_digits").ok K,
  fun K => (He.Fa.glo "_law_cell").ok K,
  fun K => (He.Fa.glo "_law_digits").ok K,
  fun K => (He.Fa.glo "_law_holds").ok K,
  fun K => (He.Fa.glo "_law_is_integer").ok K,
  fun K => (He.Fa.glo "_law_pair").ok K,
  fun K => (He.Fa.glo "_law_plain").ok K,
  fun K => (He.Fa.glo "_law_read_back").ok K,
  fun K => (He.Fa.glo "_law_text").ok K,
  fun K => (He.Fa.glo "_plain").ok K,
  fun K => (He.Fa.glo "_read_power").ok K,
  fun K => (He.Fa.glo "_read_top").ok K,
  fun K => (He.Fa.glo "is_whole").ok K,
  fun K => (He.Fa.glo "law").ok K,
  fun K => (He.Fa.free "abs").ok K,
  fun K => (He.Fa.free "all").ok K,
  fun K => (He.Fa.free "bool").ok K,
  fun K => (He.Fa.free "int").ok K,
  fun K => (He.Fa.free "isinstance").ok K,
  fun K => (He.Fa.free "len").ok K,
  fun K => (He.Fa.free "min").ok K,
  fun K => (He.Fa.free "range").ok K,
  fun K => (He.Fa.free "str").ok K,
  fun K => (He.Fa.free "type").ok K,
  fun K => (He.Fa.int "LONGEST_TOP" (14)).ok K,
  fun K => (He.Fa.int "MOST_POWER" (40)).ok K,
  fun K => (He.Fa.int "MOST_TOP" (1000000000000)).ok K,
  fun K => (He.Fa.cls "Dyadic").ok K,
  fun K => (He.Fa.exc "BadValue").ok K,
  fun K => inscB K "Dyadic",
  fun K => (He.Fa.meth "Dyadic" "text").ok K,
  fun K => (He.Fa.mkr "Dyadic").ok K,
  fun K => (He.Fa.noat "Dyadic" "_power").ok K,
  fun K => (He.Fa.noat "Dyadic" "_top").ok K,
  fun K => propB K "Dyadic" "power",
  fun K => propB K "Dyadic" "top",
  fun K => statB K "Dyadic" "from_text"]
def fn : List He5.DefA := [{ at_ := fun K => ad_law_digits K, name := "_law_digits", qual := "_law_digits", params := defArgs s_law_digits, body := defBody s_law_digits, scope := defScope s_law_digits, dfl := [] },
  { at_ := fun K => ad_law_pair K, name := "_law_pair", qual := "_law_pair", params := defArgs s_law_pair, body := defBody s_law_pair, scope := defScope s_law_pair, dfl := [] },
  { at_ := fun K => ad_law_cell K, name := "_law_cell", qual := "_law_cell", params := defArgs s_law_cell, body := defBody s_law_cell, scope := defScope s_law_cell, dfl := [] },
  { at_ := fun K => ad_is_whole K, name := "is_whole", qual := "is_whole", params := defArgs s_is_whole, body := defBody s_is_whole, scope := defScope s_is_whole, dfl := [] },
  { at_ := fun K => ad_plain K, name := "_plain", qual := "_plain", params := defArgs s_plain, body := defBody s_plain, scope := defScope s_plain, dfl := [] },
  { at_ := fun K => ad_Dyadic_d_init K, name := "__init__", qual := "Dyadic.__init__", params := defArgs s_Dyadic_d_init, body := defBody s_Dyadic_d_init, scope := defScope s_Dyadic_d_init, dfl := [.int 0] },
  { at_ := fun K => ad_Dyadic_m_text K, name := "text", qual := "Dyadic.text", params := defArgs s_Dyadic_m_text, body := defBody s_Dyadic_m_text, scope := defScope s_Dyadic_m_text, dfl := [] },
  { at_ := fun K => ad_law_plain K, name := "_law_plain", qual := "_law_plain", params := defArgs s_law_plain, body := defBody s_law_plain, scope := defScope s_law_plain, dfl := [] },
  { at_ := fun K => ad_law_text K, name := "_law_text", qual := "_law_text", params := defArgs s_law_text, body := defBody s_law_text, scope := defScope s_law_text, dfl := [] },
  { at_ := fun K => ad_are_digits K, name := "_are_digits", qual := "_are_digits", params := defArgs s_are_digits, body := defBody s_are_digits, scope := defScope s_are_digits, dfl := [] },
  { at_ := fun K => ad_read_top K, name := "_read_top", qual := "_read_top", params := defArgs s_read_top, body := defBody s_read_top, scope := defScope s_read_top, dfl := [] },
  { at_ := fun K => ad_read_power K, name := "_read_power", qual := "_read_power", params := defArgs s_read_power, body := defBody s_read_power, scope := defScope s_read_power, dfl := [] },
  { at_ := fun K => ad_Dyadic_m_from_text K, name := "from_text", qual := "Dyadic.from_text", params := defArgs s_Dyadic_m_from_text, body := defBody s_Dyadic_m_from_text, scope := defScope s_Dyadic_m_from_text, dfl := [] },
  { at_ := fun K => ad_law_is_integer K, name := "_law_is_integer", qual := "_law_is_integer", params := defArgs s_law_is_integer, body := defBody s_law_is_integer, scope := defScope s_law_is_integer, dfl := [] },
  { at_ := fun K => ad_Dyadic_m_top K, name := "top", qual := "Dyadic.top", params := defArgs s_Dyadic_m_top, body := defBody s_Dyadic_m_top, scope := defScope s_Dyadic_m_top, dfl := [] },
  { at_ := fun K => ad_Dyadic_m_power K, name := "power", qual := "Dyadic.power", params := defArgs s_Dyadic_m_power, body := defBody s_Dyadic_m_power, scope := defScope s_Dyadic_m_power, dfl := [] },
  { at_ := fun K => ad_law_holds K, name := "_law_holds", qual := "_law_holds", params := defArgs s_law_holds, body := defBody s_law_holds, scope := defScope s_law_holds, dfl := [] },
  { at_ := fun K => ad_law_read_back K, name := "_law_read_back", qual := "_law_read_back", params := defArgs s_law_read_back, body := defBody s_law_read_back, scope := defScope s_law_read_back, dfl := [] },
  { at_ := fun K => ad_law K, name := "law", qual := "law", params := defArgs s_law, body := defBody s_law, scope := defScope s_law, dfl := [] }]
theorem txt_of {K : PySem.W.Frag} {h : Heap} {mg : Str → Option Value} (X : K.In h) (G : h.Ns mainGlobals mg) (c : SaysM fs fn K) : Txt K mg where
  g_BadValue := He.glo_ok X G (c.fact 0 rfl)
  g_Dyadic := He.glo_ok X G (c.fact 1 rfl)
  g__are_digits := He.glo_ok X G (c.fact 2 rfl)
  g__law_cell := He.glo_ok X G (c.fact 3 rfl)
  g__law_digits := He.glo_ok X G (c.fact 4 rfl)
  g__law_holds := He.glo_ok X G (c.fact 5 rfl)
  g__law_is_integer := He.glo_ok X G (c.fact 6 rfl)
  g__law_pair := He.glo_ok X G (c.fact 7 rfl)
  g__law_plain := He.glo_ok X G (c.fact 8 rfl)
  g__law_read_back := He.glo_ok X G (c.fact 9 rfl)
  g__law_text := He.glo_ok X G (c.fact 10 rfl)
  g__plain := He.glo_ok X G (c.fact 11 rfl)
  g__read_power := He.glo_ok X G (c.fact 12 rfl)
  g__read_top := He.glo_ok X G (c.fact 13 rfl)
  g_is_whole := He.glo_ok X G (c.fact 14 rfl)
  g_law := He.glo_ok X G (c.fact 15 rfl)
  z_abs := He.free_ok X G (c.fact 16 rfl)
  z_all := He.free_ok X G (c.fact 17 rfl)
  z_bool := He.free_ok X G (c.fact 18 rfl)
  z_int := He.free_ok X G (c.fact 19 rfl)
  z_isinstance := He.free_ok X G (c.fact 20 rfl)
  z_len := He.free_ok X G (c.fact 21 rfl)
  z_min := He.free_ok X G (c.fact 22 rfl)
  z_range := He.free_ok X G (c.fact 23 rfl)
  z_str := He.free_ok X G (c.fact 24 rfl)
  z_type := He.free_ok X G (c.fact 25 rfl)
  c_LONGEST_TOP := He.int_ok X G (c.fact 26 rfl)
  c_MOST_POWER := He.int_ok X G (c.fact 27 rfl)
  c_MOST_TOP := He.int_ok X G (c.fact 28 rfl)
  cl_Dyadic := He.cls_ok (c.fact 29 rfl)
  x_BadValue := He.exc_ok (c.fact 30 rfl)
  ic_Dyadic := insc_ok (c.fact 31 rfl)
  mt_Dyadic_text := He.meth_ok (c.fact 32 rfl)
  mk_Dyadic := He.mkr_ok (c.fact 33 rfl)
  na_Dyadic__power := He.noat_ok (c.fact 34 rfl)
  na_Dyadic__top := He.noat_ok (c.fact 35 rfl)
  pr_Dyadic_power := prop_ok (c.fact 36 rfl)
  pr_Dyadic_top := prop_ok (c.fact 37 rfl)
  st_Dyadic_from_text := stat_ok (c.fact 38 rfl)
  d_law_digits := c.dfn 0 rfl
  d_law_pair := c.dfn 1 rfl
  d_law_cell := c.dfn 2 rfl
  d_is_whole := c.dfn 3 rfl
  d_plain := c.dfn 4 rfl
  d_Dyadic_d_init := c.dfn 5 rfl
  d_Dyadic_m_text := c.dfn 6 rfl
  d_law_plain := c.dfn 7 rfl
  d_law_text := c.dfn 8 rfl
  d_are_digits := c.dfn 9 rfl
  d_read_top := c.dfn 10 rfl
  d_read_power := c.dfn 11 rfl
  d_Dyadic_m_from_text := c.dfn 12 rfl
  d_law_is_integer := c.dfn 13 rfl
  d_Dyadic_m_top := c.dfn 14 rfl
  d_Dyadic_m_power := c.dfn 15 rfl
  d_law_holds := c.dfn 16 rfl
  d_law_read_back := c.dfn 17 rfl
  d_law := c.dfn 18 rfl
def loose : List PySem.Str := (["_wall", "PlayError", "BadValue", "BadText", "is_whole", "MOST_TOP", "MOST_POWER", "LONGEST_TOP", "Dyadic", "_plain", "exact", "_read_top", "_are_digits", "_read_power", "_law_cell", "_law_digits", "_law_is_integer", "_law_plain", "_law_pair", "_law_holds", "_law_text", "_law_read_back"] : List PySem.Str)
abbrev R : PySem.W.OpenRow := PySem.W.OpenLaw.row PySem.Challenge.rw_sumsplay_k04_texts_read_back
abbrev hk : PySem.W.Hook := hookM 6 fs fn
def ob (s : PySem.W.SharedT) : He.AlD := obsMG 6 fs fn (HandSHeadRun.getT s)
theorem ob_eq (s : PySem.W.SharedT) : ob s = hk.obs s.abs := obsMG_eq (HandSHeadRun.getT_eq s)
theorem run (w : World) : HandSHeadRun.RunEq R (PySem.W.view R.prog [26]) hk ob 20000 loose w := by
  intro os
  kernel_rfl
theorem facts {P : Program} {w : World} {K : PySem.W.Frag} {h : Heap} {mg : Str → Option Value} {f : Addr} (X : K.In h) (G : h.Ns mainGlobals mg) (hfa : mg ("law" : Str) = some (.ref f)) (c : SaysM fs fn K) (hg : (He.Fa.glo "law").ok K = true) :
    ∃ fd : FuncData, (∀ (s : Shared) (v : Value), BindsTo s fd ⟨[v], []⟩ [("script", v)]) ∧ ∀ base : Heap, K.In base → base.Ns mainGlobals mg → FnOk P w K mg base CX0 6 f fd ["script"] (sp_law K) := by
  have T := txt_of X G c
  obtain ⟨fd, F⟩ := T.d_law
  have e := hfa.symm.trans (He.glo_ok X G hg)
  cases e
  have b := FunD.bindsA (ps := ["script"]) F fun _ _ _ _ _ _ us hl => match us, hl with | [_], _ => rfl
  refine ⟨fd, fun s v => b s [v] rfl, fun base _ _ => ?_⟩
  obtain ⟨fd2, F2, G2⟩ := (all_ok (P := P) (w := w) (base := base) T).ex
  have e2 : fd2 = fd := fd_same F2 F
  rw [← e2]; exact G2
end Mine
open PySem PySem.W PySem.Calls PyProof.Rows
set_option maxRecDepth 100000 in
set_option maxHeartbeats 0 in
theorem PySem.Challenge.cw_sumsplay_k04_texts_read_back_holds : PySem.Challenge.rw_sumsplay_k04_texts_read_back.Holds := by
  w_on; o_law
  refine HandSHeadRun.head_any (r := OpenLaw.row PySem.Challenge.rw_sumsplay_k04_texts_read_back) (q := view (OpenLaw.row PySem.Challenge.rw_sumsplay_k04_texts_read_back).prog [26]) (H := Mine.hk) (ob := Mine.ob) (M := 20000) (loose := Mine.loose) (d := HandSHeadRun.topDef (OpenLaw.row PySem.Challenge.rw_sumsplay_k04_texts_read_back).prog 26) (kwd := []) Mine.ob_eq
    (by kernel_rfl) (fun s => by kernel_rfl) Mine.run (by kernel_rfl) (by kernel_rfl) (by kernel_rfl) (by rfl) (by first | assumption | decide +kernel) (by decide +kernel) ⟨rfl, rfl, rfl, rfl, rfl, by decide +kernel⟩ ?hw ?hc
  case hw => w_witness2
  case hc =>
    refine L2.walk_ofE (l := PySem.Challenge.rw_sumsplay_k04_texts_read_back) (n := 63) (k := 6) (x := "script") (CX := L2.CX0) rfl (by decide) (by kernel_rfl) ⟨rfl, by decide, by decide⟩ ?F (fun _ _ _ _ z => z)
    intro w mg fa h Y G hmg0
    obtain ⟨K, KX, c⟩ := Y
    have hmg : mg ("law" : PySem.Str) = some (.ref fa) := by
      have e : (HandSHeadRun.topDef (OpenLaw.row PySem.Challenge.rw_sumsplay_k04_texts_read_back).prog 26).name = ("law" : PySem.Str) := by kernel_rfl
      rw [← e]
      exact hmg0
    obtain ⟨fd, hb, hF⟩ := Mine.facts (P := (PySem.Challenge.rw_sumsplay_k04_texts_read_back).prog) (w := w) KX G hmg c (c.fact 15 rfl)
    exact ⟨K, fd, Mine.sp_law K, KX, hb, fun H a ns hl _ hS => ⟨⟨a, ns, rfl, hS⟩, fun v H' e => e⟩, hF⟩
