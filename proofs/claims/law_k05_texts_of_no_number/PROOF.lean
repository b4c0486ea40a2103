import PyProof.Rows.All
import Wide.All
import OpenK.AllK
import Wide.FinOn
import HandS.ForMost
import HandS.ForExc
import HandS.Defaults
import HandS.MakeKw
import HandS.MakeKwOnly
import HandS.IsInst
import HandS.Codes
import HandS.Property
import HandS.Evl
import HandS.Steps
import HandS.More
import HandS.WideBits
import HandS.Wide
import HandS.FStr
import HandS.HeadEnd
import HandS.HeadHook2
import HandS.HeadHook4
import HandS.HeadNt
import HandS.Head0
import HandS.Head1
import HandS.Head2
import HandS.ExcIs
import KE.KOpsOwn
import KE.BitLaws
import HandS.Text
import HandS.StrMore
import HandS.ClsMeth
import HandS.ExcOwn
import PyProof.StrBlock2
import HandS.WordsExc
import HandS.CallSlots
import PySem.Challenge.RW_sumsplay_k05_texts_of_no_number
set_option Elab.async false
set_option linter.all false
set_option maxRecDepth 100000
set_option maxHeartbeats 4000000
namespace Mine
open PySem PySem.Spec PyProof.Rows L2
/-! a target o.f -/
section
variable {X : Cx} {o : Expr} {f : Str} {pos : Pos} {ta : TE}
def gFld (K : PySem.W.Frag) (ta : TE) (f : Str) : TG := fun v σ H Q => ta σ H fun x H1 =>
  ∃ a C dx fs, x = V.ref a ∧ H1 a = some (HO.ins C dx fs) ∧ Cls K C ∧ NoAttr K C f ∧ fs.length < 1000 ∧ Q σ (upd H1 a (HO.ins C dx (putF f v fs)))
theorem pg_fld (ho : PE X o ta) : PG X (.Attribute o f pos) (gFld X.K ta f) := by
  constructor
  intro pins s σ H v u Q I rv hw
  rw [assign_Attribute]
  apply wpAny_bind
  apply wpAny_holding
  refine thn (ho.run pins s σ H _ I hw) ?_
  rintro ov s1 ⟨x, H1, I1, rx, a, C, dx, fs, rfl, ea, hc, hn, hl, q⟩
  cases (show ov = Value.ref a from rx)
  apply wpAny_bind
  apply wpAny_standAt
  apply wpAny_bind
  apply wpAny_holding
  refine setattr_ok I1 ea hc hn hl rv ?_
  intro s3 I3
  exact wpAny_release ⟨σ, _, I3, q⟩
end

open Evl (Ex)
/-! readings by short names -/
abbrev rAddI : R2 := rI0 fun i j => .int (i + j)
abbrev rSubI : R2 := rI0 fun i j => .int (i - j)
abbrev rMulI : R2 := rI CMul fun i j => .int (i * j)
abbrev rDivI : R2 := rI CDiv fun i j => .int (i / j)
abbrev rDivW : R2 := rI CDivW fun i j => .int (i / j)
abbrev rMulW : R2 := rI CMulW fun i j => .int (i * j)
abbrev rModI : R2 := rI (fun _ j => 0 < j) fun i j => .int (i % j)
abbrev rPowI : R2 := rI CPow fun i j => .int (i ^ j.toNat)
abbrev rShlI : R2 := rI CPow fun i j => .int (i * 2 ^ j.toNat)
abbrev rShrI : R2 := rI (fun _ j => 0 ≤ j) fun i j => .int (i / 2 ^ j.toNat)
abbrev rAndI : R2 := rI0 fun i j => .int (Builtin.bitAnd i j)
abbrev rOrI : R2 := rI0 fun i j => .int (Builtin.bitOr i j)
abbrev rXorI : R2 := rI0 fun i j => .int (Builtin.bitXor i j)
abbrev rLtI : R2 := rI0 fun i j => .bl (decide (i < j))
abbrev rLeI : R2 := rI0 fun i j => .bl (decide (i ≤ j))
abbrev rGtI : R2 := rI0 fun i j => .bl (decide (j < i))
abbrev rGeI : R2 := rI0 fun i j => .bl (decide (j ≤ i))
abbrev rNegI : V → Hp → VK → Prop := rU fun i => .int (-i)
def rIsTy : R2 := fun x y H Q => ∃ a b, x = V.ty a ∧
  y = V.ty b ∧ Q (.bl (decide (a = b))) H
def rIntI : List V → Hp → VK → Prop := fun xs H Q => ∃ i, xs = [V.int i] ∧ Q (.int i) H
def rAbsI : List V → Hp → VK → Prop := fun xs H Q => ∃ i, xs = [V.int i] ∧ Q (.int (if i < 0 then -i else i)) H
def rMax2 : List V → Hp → VK → Prop := fun xs H Q => ∃ i j, xs = [V.int i, V.int j] ∧
  Q (.int (if j > i then j else i)) H
def rMin2 : List V → Hp → VK → Prop := fun xs H Q => ∃ i j, xs = [V.int i, V.int j] ∧
  Q (.int (if j < i then j else i)) H
def rLenQ (K : PySem.W.Frag) : List V → Hp → VK → Prop := fun xs H Q => ∃ p ys, xs = [V.ref p] ∧
  (SqL K H p ys ∨ SqT K H p ys) ∧ Q (.int ys.length) H
def rLenS : List V → Hp → VK → Prop := fun xs H Q => ∃ z, xs = [V.str z] ∧ z.length ≤ sizeLine ∧
  Q (.int z.length) H
def rListQ (K : PySem.W.Frag) : List V → Hp → VK → Prop := fun xs H Q => ∃ p ys, xs = [V.ref p] ∧
  (SqL K H p ys ∨ SqT K H p ys) ∧ ∀ l, H l = none → Q (.ref l) (upd H l (.lst ys))
def rStrI : List V → Hp → VK → Prop := fun xs H Q => ∃ i, xs = [V.int i] ∧ i.natAbs.log2 < 1920 ∧
  Q (.str (toString i)) H
def rIsC (C : Addr) : List V → Hp → VK → Prop := fun xs H Q => ∃ a dx fs, xs = [V.ref a, V.ref C] ∧
  H a = some (HO.ins C dx fs) ∧ Q (.bl true) H
def rCatS : R2 := fun x y H Q => ∃ i j, x = V.str i ∧ y = V.str j ∧ i.length + j.length ≤ sizeLine ∧
  Q (.str (i ++ j)) H
section
variable {X : Cx}
theorem cr_intI : CallR X (.type "int") rIntI := fun pins s σ H xs us Q I r h =>
  call_int1 pins s σ H xs us Q I r (Or.inl h)
theorem cr_absI : CallR X (.builtin "abs") rAbsI := call_abs
theorem cr_max2 (hc : X.calm = true) : CallR X (.builtin "max") rMax2 := call_max2 hc
theorem cr_min2 (hc : X.calm = true) : CallR X (.builtin "min") rMin2 := call_min2 hc
theorem cr_lenQ : CallR X (.builtin "len") (rLenQ X.K) := call_len_seq
theorem cr_lenS : CallR X (.builtin "len") rLenS := call_len_str
theorem cr_listQ : CallR X (.type "list") (rListQ X.K) := call_list_of
theorem cr_strI : CallR X (.type "str") rStrI := call_str_int
theorem cr_isC {C : Addr} (c : C8.InsC X.K C) : CallR X (.builtin "isinstance") (rIsC C) := C8.call_isC c
theorem cst_ok {x : Str} {i : Int} (h : ∃ t, X.mg x = some (.int i t)) : ∃ u, X.mg x = some u ∧ RelV (.int i) u :=
  let ⟨t, e⟩ := h
  ⟨_, e, t, rfl⟩
end
/-! promises: what is asked, what is given, what is raised -/
def spR (pre : List V → Hp → Prop) (post : List V → Hp → V → Hp → Prop) : Sp := fun vs H Q _ =>
  pre vs H ∧ ∀ v H', post vs H v H' → Q v H'
def spX (pre : List V → Hp → Prop) (post : List V → Hp → V → Hp → Prop) (ex : List V → Hp → Value → Option Addr → Hp → Prop) : Sp := fun vs H Q E =>
  pre vs H ∧ (∀ v H', post vs H v H' → Q v H') ∧ ∀ c d H', ex vs H c d H' → E c d H'
structure DefOk (P : Program) (w : World) (K : PySem.W.Frag) (mg : Str → Option Value) (base : Heap) (CX : CXT) (k : Nat) (x qual : Str) (st : Stmt) (dvs : List V) (f : Addr) (ps : List Str) (sp : Sp) : Prop where
  ex : ∃ fd, FunD K x qual (defArgs st) (defBody st) (defScope st) dvs [] f fd ∧ FnOk P w K mg base CX k f fd ps sp
/-! readings, step by step, forwards -/
section
variable {σ : L2.St} {H : Hp} {Q : VK} {ta tb tc te tv : TE} {K : PySem.W.Frag} {D : Ends}
theorem k_var {i : Nat} {v : V} (h : σ[i]? = some (some v)) (q : Q v H) : tVar i σ H Q := ⟨v, h, q⟩
theorem k_c {v : V} (q : Q v H) : tC v σ H Q := q
theorem k_op {r : R2} (q : ta σ H fun x H1 => tb σ H1 fun y H2 => r x y H2 Q) : tOp r ta tb σ H Q := q
theorem k_un {r : V → Hp → VK → Prop} (q : ta σ H fun x H1 => r x H1 Q) : tUn r ta σ H Q := q
theorem k_I0 {g : Int → Int → V} {i j : Int} (q : Q (g i j) H) : rI0 g (.int i) (.int j) H Q := ⟨i, j, rfl, rfl, q⟩
theorem k_I {C : Int → Int → Prop} {g : Int → Int → V} {i j : Int} (c : C i j) (q : Q (g i j) H) : rI C g (.int i) (.int j) H Q := ⟨i, j, rfl, rfl, c, q⟩
theorem k_U {g : Int → V} {i : Int} (q : Q (g i) H) : rU g (.int i) H Q := ⟨i, rfl, q⟩
theorem k_eq {x y : V} (s : scal x y = true) (q : Q (.bl (decide (x = y))) H) : rEq x y H Q := ⟨s, q⟩
theorem k_ne {x y : V} (s : scal x y = true) (q : Q (.bl (!decide (x = y))) H) : rNe x y H Q := ⟨s, q⟩
theorem k_eqI {i j : Int} (q : Q (.bl (decide (i = j))) H) : rEq (.int i) (.int j) H Q := ⟨rfl, by
  have e : decide (V.int i = V.int j) = decide (i = j) := by simp
  rw [e]; exact q⟩
theorem k_eqB {i j : Bool} (q : Q (.bl (decide (i = j))) H) : rEq (.bl i) (.bl j) H Q := ⟨rfl, by
  have e : decide (V.bl i = V.bl j) = decide (i = j) := by simp
  rw [e]; exact q⟩
theorem k_neI {i j : Int} (q : Q (.bl (decide (i ≠ j))) H) : rNe (.int i) (.int j) H Q := ⟨rfl, by
  have e : (!decide (V.int i = V.int j)) = decide (i ≠ j) := by simp
  rw [e]; exact q⟩
theorem k_isTy {a b : String} (q : Q (.bl (decide (a = b))) H) : rIsTy (.ty a) (.ty b) H Q := ⟨a, b, rfl, rfl, q⟩
theorem k_isN {x : V} (q : Q (.bl (decide (x = .non))) H) : rIsN x .non H Q := ⟨rfl, q⟩
theorem k_notN {x : V} (q : Q (.bl (!decide (x = .non))) H) : rNotN x .non H Q := ⟨rfl, q⟩
theorem k_ixL {p : Addr} {xs : List V} {i : Int} {v : V} (h : SqL K H p xs) (e : atI xs i = some v) (q : Q v H) : rIxL K (.ref p) (.int i) H Q := ⟨p, xs, i, v, rfl, rfl, h, e, q⟩
theorem k_ixT {p : Addr} {xs : List V} {i : Int} {v : V} (h : SqT K H p xs) (e : atI xs i = some v) (q : Q v H) : rIxT K (.ref p) (.int i) H Q := ⟨p, xs, i, v, rfl, rfl, h, e, q⟩
theorem k_andV (q : ta σ H fun x H1 => ∃ c, x = .bl c ∧ if c = true then tb σ H1 Q else Q (.bl false) H1) : tAndV ta tb σ H Q := q
theorem k_orV (q : ta σ H fun x H1 => ∃ c, x = .bl c ∧ if c = true then Q (.bl true) H1 else tb σ H1 Q) : tOrV ta tb σ H Q := q
theorem k_notV (q : ta σ H fun x H1 => ∃ c, x = .bl c ∧ Q (.bl (!c)) H1) : tNotV ta σ H Q := q
theorem k_if {t : TT} (q : t σ H fun c H1 => if c = true then ta σ H1 Q else tb σ H1 Q) : tIf t ta tb σ H Q := q
theorem k_chain {r r' : R2} (q : ta σ H fun x H1 => tb σ H1 fun y H2 => r x y H2 fun z H3 => ∃ k, z = .bl k ∧ (if k = true then tc σ H3 fun w' H4 => r' y w' H4 Q else Q (.bl false) H3)) : tChain r r' ta tb tc σ H Q := q
theorem k_bl {P : Bool → Prop} {c : Bool} (q : P c) : ∃ k, V.bl c = V.bl k ∧ P k := ⟨c, rfl, q⟩
theorem k_tup {t : TA} (q : t σ H fun xs H1 => xs.length ≤ sizeLine ∧ ∀ p, H1 p = none → Q (.ref p) (upd H1 p (.tup xs))) : tTup t σ H Q := q
theorem k_lst {t : TA} (q : t σ H fun xs H1 => xs.length ≤ sizeLine ∧ ∀ p, H1 p = none → Q (.ref p) (upd H1 p (.lst xs))) : tLst t σ H Q := q
theorem k_cb {r : List V → Hp → VK → Prop} {t : TA} (q : t σ H fun vs H1 => r vs H1 Q) : tCB r t σ H Q := q
theorem k_nil {R : List V → Hp → Prop} (q : R [] H) : tNil σ H R := q
theorem k_cons {t : TA} {R : List V → Hp → Prop} (q : ta σ H fun x H1 => t σ H1 fun xs H2 => R (x :: xs) H2) : tCons ta t σ H R := q
theorem k_rInt {i : Int} (q : Q (.int i) H) : rIntI [.int i] H Q := ⟨i, rfl, q⟩
theorem k_rAbs {i : Int} (q : Q (.int (if i < 0 then -i else i)) H) : rAbsI [.int i] H Q := ⟨i, rfl, q⟩
theorem k_rMax {i j : Int} (q : Q (.int (if j > i then j else i)) H) : rMax2 [.int i, .int j] H Q := ⟨i, j, rfl, q⟩
theorem k_rMin {i j : Int} (q : Q (.int (if j < i then j else i)) H) : rMin2 [.int i, .int j] H Q := ⟨i, j, rfl, q⟩
theorem k_rLenL {p : Addr} {ys : List V} (h : SqL K H p ys) (q : Q (.int ys.length) H) : rLenQ K [.ref p] H Q := ⟨p, ys, rfl, Or.inl h, q⟩
theorem k_rLenT {p : Addr} {ys : List V} (h : SqT K H p ys) (q : Q (.int ys.length) H) : rLenQ K [.ref p] H Q := ⟨p, ys, rfl, Or.inr h, q⟩
theorem k_rStr {i : Int} (h : i.natAbs.log2 < 1920) (q : Q (.str (toString i)) H) : rStrI [.int i] H Q := ⟨i, rfl, h, q⟩
theorem k_rIsC {C a dx : Addr} {fs : List (Str × V)} (h : H a = some (.ins C dx fs)) (q : Q (.bl true) H) : rIsC C [.ref a, .ref C] H Q := ⟨a, dx, fs, rfl, h, q⟩
theorem k_isi {x c : V} {t u : Value} {b : Bool} (hc : ClsV c u) (ht : TyX K H x t) (e : PySem.W.kitOne K t u = some b) (q : Q (.bl b) H) : rIsi K [x, c] H Q := ⟨x, c, t, u, b, rfl, hc, ht, e, q⟩
theorem k_fld {a C dx : Addr} {fs : List (Str × V)} {f : Str} {v : V} (ha : ta σ H fun x H1 => x = .ref a ∧ H1 a = some (.ins C dx fs) ∧ Cls K C ∧ NoAttr K C f ∧ fs.lookup f = some v ∧ Q v H1)
    (mono : ∀ Q1 Q2 : VK, (∀ x H1, Q1 x H1 → Q2 x H1) → ta σ H Q1 → ta σ H Q2) : tFld K ta f σ H Q :=
  mono _ _ (fun _ _ ⟨h1, h2, h3, h4, h5, h6⟩ => ⟨a, C, dx, fs, v, h1, h2, h3, h4, h5, h6⟩) ha
theorem k_call {sp : Sp} {dvs : List V} {E : XK} {t : TA} (q : t σ H fun vs H1 => sp (vs ++ dvs) H1 Q E) : tCall sp dvs E t σ H Q := q
theorem k_meth {C : Addr} {m : Str} {sp : Sp} {dvs : List V} {E : XK} {t : TA} (q : ta σ H fun x H1 => ∃ a dx fs, x = .ref a ∧ H1 a = some (.ins C dx fs) ∧ fs.lookup m = none ∧ t σ H1 fun vs H2 => sp (x :: (vs ++ dvs)) H2 Q E) : tMeth C m sp dvs E ta t σ H Q := q
theorem k_make {C : Addr} {sp : Sp} {dvs : List V} {E : XK} {t : TA} (q : t σ H fun vs H1 => ∀ x dx, H1 x = none → H1 dx = none → dx ≠ x → sp (.ref x :: (vs ++ dvs)) (upd (upd H1 dx (.own x)) x (.ins C dx [])) (fun v H2 => v = .non ∧ Q (.ref x) H2) E) : tMake C sp dvs E t σ H Q := q
theorem k_prop {C : Addr} {sp : Sp} {dvs : List V} {E : XK} (q : ta σ H fun x H1 => ∃ a dx fs, x = .ref a ∧ H1 a = some (.ins C dx fs) ∧ sp (.ref a :: dvs) H1 Q E) : tProp C sp dvs E ta σ H Q := q
/-! tests -/
variable {t u : TT} {R : Bool → Hp → Prop}
theorem k_test (q : te σ H fun x H' => ∃ k, x = .bl k ∧ R k H') : tTest te σ H R := q
theorem k_B (q : te σ H fun x H' => ∃ k, x = .bl k ∧ R k H') : tB te σ H R := q
theorem k_and (q : t σ H fun c H1 => if c = true then u σ H1 R else R false H1) : tAnd t u σ H R := q
theorem k_or (q : t σ H fun c H1 => if c = true then R true H1 else u σ H1 R) : tOr t u σ H R := q
theorem k_not (q : t σ H fun c H1 => R (!c) H1) : tNot t σ H R := q
/-! statements -/
variable {t1 t2 : TS} {g : TG}
theorem k_seq (q : t1 { D with nx := t2 D } σ H) : tSeq t1 t2 D σ H := q
theorem k_next (q : D.nx σ H) : tNext D σ H := q
theorem k_asg (q : te σ H fun x H1 => g x σ H1 D.nx) : tAsg te g D σ H := q
theorem k_name {i : Nat} {v : V} {R : L2.St → Hp → Prop} (q : R (σ.set i (some v)) H) : gName i v σ H R := q
theorem k_ret (q : te σ H D.rt) : tRet te D σ H := q
theorem k_drop (q : te σ H fun _ H1 => D.nx σ H1) : tDrop te D σ H := q
theorem k_ifS (q : t σ H fun b H1 => if b = true then t1 D σ H1 else t2 D σ H1) : tIfS t t1 t2 D σ H := q
theorem k_gtup {n : Nat} {tg : TGs} {a : Addr} {xs : List V} {R : L2.St → Hp → Prop} (h : SqT K H a xs) (l : xs.length = n) (q : tg xs σ H R) : gTup K n tg (.ref a) σ H R := ⟨a, xs, rfl, h, l, q⟩
theorem k_gcons {tg : TG} {tr : TGs} {v : V} {r : List V} {R : L2.St → Hp → Prop} (q : tg v σ H fun σ' H' => tr r σ' H' R) : gCons tg tr (v :: r) σ H R := ⟨v, r, rfl, q⟩
theorem k_gnil {R : L2.St → Hp → Prop} (q : R σ H) : gNil [] σ H R := ⟨rfl, q⟩
theorem k_gfld {a C dx : Addr} {i : Nat} {fs : List (Str × V)} {f : Str} {v : V} {R : L2.St → Hp → Prop} (hs : σ[i]? = some (some (.ref a))) (h : H a = some (.ins C dx fs)) (hc : Cls K C) (hn : NoAttr K C f) (hl : fs.length < 1000) (q : R σ (upd H a (.ins C dx (putF f v fs)))) : gFld K (tVar i) f v σ H R :=
  ⟨_, hs, a, C, dx, fs, rfl, h, hc, hn, hl, q⟩
theorem k_fldv {a C dx : Addr} {i : Nat} {fs : List (Str × V)} {f : Str} {v : V} (hs : σ[i]? = some (some (.ref a))) (h : H a = some (.ins C dx fs)) (hc : Cls K C) (hn : NoAttr K C f) (hl : fs.lookup f = some v) (q : Q v H) : tFld K (tVar i) f σ H Q :=
  ⟨_, hs, a, C, dx, fs, v, rfl, h, hc, hn, hl, q⟩
theorem k_iteT {A B : Prop} (q : A) : if true = true then A else B := q
theorem k_iteF {A B : Prop} (q : B) : if false = true then A else B := by simpa using q
theorem k_pow12 (q : Q (.int 1000000000000) H) : rPowI (.int 10) (.int 12) H Q := k_I ⟨by decide, by decide, by decide⟩ q
theorem k_pow11 (q : Q (.int 100000000000) H) : rPowI (.int 10) (.int 11) H Q := k_I ⟨by decide, by decide, by decide⟩ q
theorem k_pow9 (q : Q (.int 1000000000) H) : rPowI (.int 10) (.int 9) H Q := k_I ⟨by decide, by decide, by decide⟩ q
theorem k_pow30 (q : Q (.int 1000000000000000000000000000000) H) : rPowI (.int 10) (.int 30) H Q := k_I ⟨by decide, by decide, by decide⟩ q
theorem k_pow18 (q : Q (.int 1000000000000000000) H) : rPowI (.int 10) (.int 18) H Q := k_I ⟨by decide, by decide, by decide⟩ q
theorem k_minL {i j : Int} (q : ∀ m, m ≤ i → m ≤ j → (m = i ∨ m = j) → Q (.int m) H) : rMin2 [.int i, .int j] H Q := by
  refine ⟨i, j, rfl, ?_⟩
  by_cases h : j < i
  · rw [if_pos h]; exact q j (by omega) (by omega) (Or.inr rfl)
  · rw [if_neg h]; exact q i (by omega) (by omega) (Or.inl rfl)
theorem k_maxL {i j : Int} (q : ∀ m, i ≤ m → j ≤ m → (m = i ∨ m = j) → Q (.int m) H) : rMax2 [.int i, .int j] H Q := by
  refine ⟨i, j, rfl, ?_⟩
  by_cases h : j > i
  · rw [if_pos h]; exact q j (by omega) (by omega) (Or.inr rfl)
  · rw [if_neg h]; exact q i (by omega) (by omega) (Or.inl rfl)
theorem k_shl1 {j : Int} (h : 0 ≤ j ∧ j ≤ 1000000) (q : ∀ m : Int, 1 ≤ m → m = 2 ^ j.toNat → Q (.int m) H) : rShlI (.int 1) (.int j) H Q := by
  refine k_I ⟨h.1, h.2, by decide⟩ ?_
  rw [Int.one_mul]
  refine q _ ?_ rfl
  have hp : (0 : Int) < 2 ^ j.toNat := Int.pow_pos (by decide)
  omega
theorem k_iteNT {A B : Prop} (q : B) : if (!true) = true then A else B := by simpa using q
theorem k_iteNF {A B : Prop} (q : A) : if (!false) = true then A else B := by simpa using q
theorem k_raise {E : XK} {c : Value} (q : E c none H) : tRaise E c D σ H := q
theorem k_iteD {p A B : Prop} [Decidable p] (h1 : p → A) (h2 : ¬ p → B) : if decide p = true then A else B := by
  by_cases h : p
  · rw [if_pos (decide_eq_true h)]; exact h1 h
  · rw [if_neg (by simpa using h)]; exact h2 h
theorem k_iteN {p A B : Prop} [Decidable p] (h1 : ¬ p → A) (h2 : p → B) : if (!decide p) = true then A else B := by
  by_cases h : p
  · rw [if_neg (by simpa using h)]; exact h2 h
  · rw [if_pos (by simpa using h)]; exact h1 h
theorem k_iteB {b : Bool} {A B : Prop} (h1 : b = true → A) (h2 : b = false → B) : if b = true then A else B := by
  cases b
  · rw [if_neg (by decide)]; exact h2 rfl
  · exact h1 rfl
theorem k_sq {a : Addr} {xs : List V} (h : H a = some (.lst xs)) : SqL K H a xs := Or.inl (Or.inl h)
theorem k_st {a : Addr} {xs : List V} (h : H a = some (.tup xs)) : SqT K H a xs := Or.inl (Or.inl h)
theorem k_while (W : Nat → L2.St → Hp → Prop) (m0 : Nat) (h0 : W m0 σ H)
    (hs : ∀ m σ H, W m σ H → t σ H fun b H1 => if b = true then ∃ N : L2.St → Hp → Prop, (∀ σ' H', N σ' H' → ∃ m', m' < m ∧ W m' σ' H') ∧
      t1 { D with nx := N, ct := N, bk := D.nx } σ H1 else D.nx σ H1) : tWhile t t1 D σ H := ⟨W, ⟨m0, h0⟩, hs⟩
/-- what a loop asks, by a word of its turns -/
def forK (g : TG) (tb : TS) (D : Ends) (σ : L2.St) : It → Hp → Prop := fun J H1 =>
  ∃ W : Nat → Nat → L2.St → Hp → Prop, (∃ m, W 0 m σ H1) ∧
    ∀ i m σ H, W i m σ H → (J.stop i H ∧ D.nx σ H) ∨ (J.go i H ∧
      ∃ N : L2.St → Hp → Prop, (∀ σ' H', N σ' H' → ∃ m', m' < m ∧ W (i + 1) m' σ' H') ∧
        ∀ x H', J.yld i H x H' → g x σ H' fun σ2 H2 => tb { D with nx := N, ct := N, bk := D.nx } σ2 H2)
theorem k_for {wi : TI} {g : TG} {tb : TS} (q : wi σ H (forK g tb D σ)) : tFor wi g tb D σ H := q
theorem k_rng1 {ta : TA} {R : It → Hp → Prop} (q : ta σ H fun vs H1 => ∃ j : Int, vs = [.int j] ∧
  -(2 ^ 62) ≤ j ∧ j < 2 ^ 62 ∧ R (Itr 0 j.toNat) H1) : iRng1 ta σ H R := q
theorem k_rng2 {ta : TA} {R : It → Hp → Prop} (q : ta σ H fun vs H1 => ∃ i j : Int, vs = [.int i, .int j] ∧
  (-(2 ^ 62) ≤ i ∧ i < 2 ^ 62 ∧ -(2 ^ 62) ≤ j ∧ j < 2 ^ 62) ∧ R (Itr i (j - i).toNat) H1) : iRng2 ta σ H R := q
theorem k_ilist {tl : TE} {R : It → Hp → Prop} (q : tl σ H fun x H1 => ∃ a, x = .ref a ∧
  (∃ xs, SqL K H1 a xs) ∧ R (Itl K a) H1) : iList K tl σ H R := q
theorem k_itup {tl : TE} {R : It → Hp → Prop} (q : tl σ H fun x H1 => ∃ a, x = .ref a ∧
  (∃ xs, SqT K H1 a xs) ∧ R (Itt K a) H1) : iTup K tl σ H R := q
theorem forK_range {g : TG} {tb : TS} {n : Nat} (Pv : Nat → L2.St → Hp → Prop) (h0 : Pv 0 σ H)
    (hs : ∀ (i : Nat) σ' H', i < n → Pv i σ' H' → g (.int (i : Int)) σ' H' fun σ2 H2 => tb { D with nx := Pv (i + 1), ct := Pv (i + 1), bk := D.nx } σ2 H2)
    (hd : ∀ σ' H', Pv n σ' H' → D.nx σ' H') : forK g tb D σ (Itr 0 n) H := by
  refine for_range (lo := 0) (n := n) Pv h0 (fun i σ' H' hi p => ?_) hd
  have e0 : (0 : Int) + (i : Int) = (i : Int) := Int.zero_add _
  rw [e0]
  exact hs i σ' H' hi p
theorem forK_list {g : TG} {tb : TS} {a : Addr} {xs : List V} (Pv : Nat → L2.St → Hp → Prop) (h0 : Pv 0 σ H)
    (hl : ∀ i σ' H', i ≤ xs.length → Pv i σ' H' → SqL K H' a xs)
    (hs : ∀ i x σ' H', xs[i]? = some x → Pv i σ' H' → g x σ' H' fun σ2 H2 => tb { D with nx := Pv (i + 1), ct := Pv (i + 1), bk := D.nx } σ2 H2)
    (hd : ∀ σ' H', Pv xs.length σ' H' → D.nx σ' H') : forK g tb D σ (Itl K a) H := for_list Pv h0 hl hs hd
end
section
variable {σ : L2.St} {H : Hp} {Q : VK} {ta te : TE} {K : PySem.W.Frag}
theorem k_bm {T : String} {r : V → List V → Hp → VK → Prop} {t : TA} (q : ta σ H fun x H1 => tyV K T x H1 ∧
  t σ H1 fun xs H2 => r x xs H2 Q) : tBM K T r ta t σ H Q := q
theorem k_bm0 {T : String} {r : V → List V → Hp → VK → Prop} (q : ta σ H fun x H1 => tyV K T x H1 ∧ r x [] H1 Q) : tBM0 K T r ta σ H Q := q
theorem k_tyl {l : Addr} {xs : List V} {P : Prop} (h : SqL K H l xs) (q : P) : tyV K "list" (.ref l) H ∧ P := ⟨Or.inl ⟨rfl, xs, h⟩, q⟩
theorem k_rApp {l : Addr} {xs : List V} {y : V} (h : H l = some (.lst xs)) (z : xs.length < sizeLine) (q : Q .non (upd H l (.lst (xs ++ [y])))) : rAppend (.ref l) [y] H Q := ⟨l, xs, y, rfl, rfl, h, z, q⟩
theorem k_sizeL {α : Type} {xs : List α} {f : α → V} (h : xs.length ≤ 100000) : (xs.map f).length < sizeLine := by
  rw [List.length_map]; exact Nat.lt_of_le_of_lt h (by decide)
end
section
variable {σ : L2.St} {H : Hp} {t u : TS} {D : Ends}
theorem k_cut (Mid : L2.St → Hp → Prop) (h : t { D with nx := Mid } σ H) (r : ∀ σ' H', Mid σ' H' → u D σ' H') : Evl.tCut t u D σ H := ⟨Mid, h, r⟩
end
theorem tr_step {H H' : Hp} {a : Addr} {o : HO} (e : Ex H H') (h : H a = some o) : H' a = some o := e a o h
section
variable {X : Cx} {CX : CXT} {k : Nat} {f C : Addr} {fd : FuncData} {ps : List Str} {sp : Sp} {E : XK}
/-- x op y, both instances of the class at C -/
def rMine (C : Addr) (sp : Sp) (E : XK) : R2 := fun x y H Q => ∃ a dx fs b dy gs,
  x = V.ref a ∧ y = V.ref b ∧ H a = some (HO.ins C dx fs) ∧ H b = some (HO.ins C dy gs) ∧ sp [x, y] H Q E
def rMine1 (C : Addr) (sp : Sp) (E : XK) : V → Hp → VK → Prop := fun x H Q => ∃ a dx fs,
  x = V.ref a ∧ H a = some (HO.ins C dx fs) ∧ sp [x] H Q E
theorem back_of {z : V} {u : Value} {s' : Shared} {R : Value → Shared → Prop} (r : RelV z u) (q : R u s') : PySem.W.CmpBack R u s' := by
  cases z with
  | non => cases r; exact q
  | bl b => cases r; exact q
  | int i => obtain ⟨t, rfl⟩ := r; exact q
  | str i => obtain ⟨t, rfl⟩ := r; exact q
  | byt i => obtain ⟨t, rfl⟩ := r; exact q
  | flt i => obtain ⟨t, rfl⟩ := r; exact q
  | ref a => cases r; exact q
  | ty n => cases r; exact q
theorem op_mine {op : Operator} (hc : PySem.W.selfFirst X.K C = true) (hm : Meth X.K C (PySem.dunder op.info.2) f) (F : FnOk X.prog X.w X.K X.mg X.base CX k f fd ps sp) (hr : Room k X.A) (hb : Binds X.K fd ps []) (hx : Passes CX X E) :
    OpR X (binaryOp op) (rMine C sp E) := by
  rintro pins s σ H x y v u Q I rx ry ⟨a, dx, fs, b, dy, gs, rfl, rfl, ha, hb', q⟩
  cases (show v = Value.ref a from rx)
  cases (show u = Value.ref b from ry)
  obtain ⟨mA, O, _⟩ := ins_get I.hok ha
  obtain ⟨mB, O', _⟩ := ins_get I.hok hb'
  obtain ⟨od, J, _⟩ := O.look
  obtain ⟨od', J', _⟩ := O'.look
  obtain ⟨m, hF⟩ := I.fr
  refine PySem.W.binop_K hF I.ok.mod.kin J J'.type hc hm.at_ hm.fn ?_
  refine wpAny_mono (run_fn (us := [.ref a, .ref b]) (vs := [.ref a, .ref b]) (dvs := []) (ds := []) F hr hb .nil hx I (.cons rfl (.cons rfl .nil)) q) ?_ (fun _ _ z => z)
  rintro u' s' ⟨z, H', I', rz, qz⟩
  exact back_of (R := EP X pins σ Q) rz ⟨z, H', I', rz, qz⟩
theorem un_mine (hm : Meth X.K C "__neg__" f) (F : FnOk X.prog X.w X.K X.mg X.base CX k f fd ps sp) (hr : Room k X.A) (hb : Binds X.K fd ps []) (hx : Passes CX X E) :
    UnR X (unaryOp .USub) (rMine1 C sp E) := by
  rintro pins s σ H x v Q I rx ⟨a, dx, fs, rfl, ha, q⟩
  cases (show v = Value.ref a from rx)
  obtain ⟨mA, O, _⟩ := ins_get I.hok ha
  obtain ⟨od, J, _⟩ := O.look
  obtain ⟨m, hF⟩ := I.fr
  refine PySem.W.ksp_neg hF I.ok.mod.kin J hm.at_ hm.fn ?_
  exact run_fn (us := [.ref a]) (vs := [.ref a]) (dvs := []) (ds := []) F hr hb .nil hx I (.cons rfl .nil) q
end
/-! small facts -/
theorem get_int {ns : List Int} {i : Nat} {y : V} (h : (ns.map V.int)[i]? = some y) : ∃ z, ns[i]? = some z ∧ y = .int z := by
  rw [List.getElem?_map] at h
  cases e : ns[i]? with
  | none => rw [e] at h; cases h
  | some z => rw [e] at h; exact ⟨z, rfl, (Option.some.inj h).symm⟩
theorem at_int {ns : List Int} {k : Int} (h0 : 0 ≤ k) (h1 : k < ns.length) : ∃ z, ns[k.toNat]? = some z ∧ atI (ns.map V.int) k = some (.int z) := by
  have hk : k.toNat < ns.length := by omega
  refine ⟨ns[k.toNat], by simp [hk], ?_⟩
  have e : ((k.toNat : Nat) : Int) = k := by omega
  have z : atI (ns.map V.int) ((k.toNat : Nat) : Int) = some (V.int ns[k.toNat]) := atI_nat (by simp [hk])
  rw [e] at z
  exact z
theorem ex_of {H H' : Hp} (e : H' = H) : Ex H H' := by rw [e]; exact Evl.Ex.refl H
theorem ex_upd {H : Hp} {p : Addr} {o : HO} (h : H p = none) : Ex H (upd H p o) := Evl.Ex.new h
theorem two_le : ∀ a b : V, [a, b].length ≤ sizeLine := fun _ _ => by show 2 ≤ sizeLine; decide
end Mine
namespace Mine
open PySem PySem.Spec PyProof.Rows L2
open PySem.W (Frag)
/-! the facts of the head: a list of tests of the written part, and the defs -/
def obsM (fs : List (Frag → Bool)) (fn : List He5.DefA) (K : Frag) : He.AlD :=
  ((fs.all fun f => f K) && fn.all fun d => d.ok K, fn.map fun d => He5.fnA K (d.at_ K))
def SaysM (fs : List (Frag → Bool)) (fn : List He5.DefA) (K : Frag) : Prop := obsM fs fn K = He5.valA fn
def obsMG (n : Nat) (fs : List (Frag → Bool)) (fn : List He5.DefA) (g : Addr → Option Obj) : He.AlD := obsM fs fn (He.frG g (He5.asA g n))
def hookM (n : Nat) (fs : List (Frag → Bool)) (fn : List He5.DefA) : PySem.W.Hook where
  α := He.AlD
  obs s := obsMG n fs fn s.heap.get?
  val _ := He5.valA fn
  says _ h := ∃ K : Frag, K.In h ∧ SaysM fs fn K
  of _ _ e := ⟨_, He.frG_in, e⟩
  keeps _ _ _ := fun ⟨K, hK, c⟩ k => ⟨K, PySem.W.Frag.In.keeps hK k, c⟩
theorem obsMG_eq {n : Nat} {fs : List (Frag → Bool)} {fn : List He5.DefA} {g : Addr → Option Obj} {s : Shared} (h : ∀ a, g a = s.heap.get? a) :
    obsMG n fs fn g = (hookM n fs fn).obs s := by
  have e : g = s.heap.get? := funext h
  subst e
  rfl
theorem SaysM.fact {fs : List (Frag → Bool)} {fn : List He5.DefA} {K : Frag} (c : SaysM fs fn K) (i : Nat) {f : Frag → Bool} (h : fs[i]? = some f) : f K = true := by
  have c1 : ((fs.all fun f => f K) && fn.all fun d => d.ok K) = true := congrArg (fun z : He.AlD => z.1) c
  exact List.all_eq_true.mp (Bool.and_eq_true_iff.mp c1).1 f (List.mem_of_getElem? h)
theorem SaysM.dfn {fs : List (Frag → Bool)} {fn : List He5.DefA} {K : Frag} (c : SaysM fs fn K) (i : Nat) {d : He5.DefA} (h : fn[i]? = some d) :
    ∃ fd, FunD K d.name d.qual d.params d.body d.scope (d.dvs K) (d.kws K) (d.at_ K) fd := by
  have c1 : ((fs.all fun f => f K) && fn.all fun d => d.ok K) = true := congrArg (fun z : He.AlD => z.1) c
  have c2 := List.all_eq_true.mp (Bool.and_eq_true_iff.mp c1).2 d (List.mem_of_getElem? h)
  have e : (fn.map fun d => He5.fnA K (d.at_ K)) = fn.map He5.DefA.val := congrArg (fun z : He.AlD => z.2) c
  have e2 := congrArg (fun l => l[i]?) e
  simp only [List.getElem?_map, h, Option.map_some, Option.some.injEq] at e2
  exact He5.DefA.funD e2 c2
end Mine
namespace Mine
open PySem PySem.Spec PyProof.Rows L2
theorem fd_same {K : PySem.W.Frag} {x q x' q' : Str} {a a' : Arguments} {b b' : List Stmt} {c c' : Scope} {d d' : List V} {k k' : List (Str × V)} {f : Addr} {fd fd' : FuncData} (F : FunD K x q a b c d k f fd) (G : FunD K x' q' a' b' c' d' k' f fd') : fd = fd' := by
  obtain ⟨_, _, _, _, _, _, _, _, _, _, _, l, _⟩ := F.ex
  obtain ⟨_, _, _, _, _, _, _, _, _, _, _, l', _⟩ := G.ex
  have e := Option.some.inj (l.symm.trans l')
  injection e with _ _ e
  injection e
end Mine
namespace Mine
open PySem PySem.Spec PyProof.Rows L2
def propG (K : PySem.W.Frag) (C f : Str) : Addr := match PySem.W.recIn K (He.ma K (He.ga K C) f) "property" with
  | some (.ref g :: _) => g
  | _ => 0
def propB (K : PySem.W.Frag) (C f : Str) : Bool :=
  He.eqO (PySem.W.findIn K (.ref (He.ga K C)) f) (some (some (.ref (He.ma K (He.ga K C) f)))) &&
  (He.eqO (PySem.W.specialIn K (.ref (He.ma K (He.ga K C) f)) "__get__") (some (some (.builtin "property.__get__"))) &&
  (decide (PySem.W.takesIn K (.ref (He.ma K (He.ga K C) f)) = some true) &&
  match PySem.W.recIn K (He.ma K (He.ga K C) f) "property" with
  | some (.ref _ :: _) => true
  | _ => false))
theorem prop_ok {K : PySem.W.Frag} {C f : Str} (h : propB K C f = true) : PropOf K (He.ga K C) f (He.ma K (He.ga K C) f) (propG K C f) := by
  unfold propB at h
  rw [Bool.and_eq_true, Bool.and_eq_true, Bool.and_eq_true] at h
  obtain ⟨h1, h2, h3, h4⟩ := h
  refine ⟨He.eqO_ok h1, He.eqO_ok h2, of_decide_eq_true h3, ?_⟩
  unfold propG
  split at h4
  · rename_i g rest e
    rw [e]; exact ⟨_, rfl⟩
  · cases h4
def inscB (K : PySem.W.Frag) (C : Str) : Bool :=
  (He.Fa.cls C).ok K && (He.eqO (PySem.W.findIn K (.ref (He.ga K C)) "__class__") (some (some (.builtin "object.__class__"))) &&
  (He.eqO (PySem.W.specialIn K (.builtin "object.__class__") "__get__") (some (some (.builtin "getset_descriptor.__get__"))) &&
  (decide (PySem.W.takesIn K (.builtin "object.__class__") = some true) && (decide (PySem.W.mroIn K (He.ga K C) (.type "object") = some true) &&
  decide (PySem.W.kitOne K (.ref (He.ga K C)) (.ref (He.ga K C)) = some true)))))
theorem insc_ok {K : PySem.W.Frag} {C : Str} (h : inscB K C = true) : C8.InsC K (He.ga K C) := by
  unfold inscB at h
  rw [Bool.and_eq_true, Bool.and_eq_true, Bool.and_eq_true, Bool.and_eq_true, Bool.and_eq_true] at h
  obtain ⟨h1, h2, h3, h4, h5, h6⟩ := h
  exact ⟨He.cls_ok h1, He.eqO_ok h2, He.eqO_ok h3, of_decide_eq_true h4, of_decide_eq_true h5, of_decide_eq_true h6⟩
end Mine
namespace Mine
open PySem L2
theorem cls_ty (T : String) : ClsV (.ty T) (.type T) := .ty T
theorem k_isiII {K : PySem.W.Frag} {H : Hp} {Q : VK} {i : Int} (q : Q (.bl true) H) : rIsi K [.int i, .ty "int"] H Q :=
  k_isi (cls_ty "int") (.base (.int i)) (kit_ty (b := "int") (r := true) (by decide +kernel)) q
theorem k_isiIB {K : PySem.W.Frag} {H : Hp} {Q : VK} {i : Int} (q : Q (.bl false) H) : rIsi K [.int i, .ty "bool"] H Q :=
  k_isi (cls_ty "bool") (.base (.int i)) (kit_ty (b := "bool") (r := false) (by decide +kernel)) q
theorem k_isiBB {K : PySem.W.Frag} {H : Hp} {Q : VK} {b : Bool} (q : Q (.bl true) H) : rIsi K [.bl b, .ty "bool"] H Q :=
  k_isi (cls_ty "bool") (.base (.bl b)) (kit_ty (b := "bool") (r := true) (by decide +kernel)) q
/-- the plain form of top / 2 ** power -/
def plainZ : Int → Nat → Int × Int
  | t, 0 => (t, 0)
  | t, n + 1 => if t % 2 = 0 then plainZ (t / 2) n else (t, ((n + 1 : Nat) : Int))
theorem plainZ_zero (t : Int) : plainZ t 0 = (t, 0) := rfl
theorem plainZ_even {t : Int} {n : Nat} (h : t % 2 = 0) : plainZ t (n + 1) = plainZ (t / 2) n := by
  show (if t % 2 = 0 then _ else _) = _
  rw [if_pos h]
theorem plainZ_odd {t : Int} {n : Nat} (h : ¬ t % 2 = 0) : plainZ t (n + 1) = (t, ((n + 1 : Nat) : Int)) := by
  show (if t % 2 = 0 then _ else _) = _
  rw [if_neg h]
theorem plainZ_le : ∀ (t : Int) (n : Nat), 0 ≤ (plainZ t n).2 ∧ (plainZ t n).2 ≤ n
  | t, 0 => by simp [plainZ]
  | t, n + 1 => by
    have ih := plainZ_le (t / 2) n
    by_cases h : t % 2 = 0
    · rw [plainZ_even h]; omega
    · rw [plainZ_odd h]; simp only; omega
/-- the plain form, in words: an even top stands with power 0 alone -/
theorem plainZ_plain : ∀ (t : Int) (n : Nat), (plainZ t n).2 = 0 ∨ ¬ (plainZ t n).1 % 2 = 0
  | t, 0 => Or.inl rfl
  | t, n + 1 => by
    by_cases h : t % 2 = 0
    · rw [plainZ_even h]; exact plainZ_plain _ _
    · rw [plainZ_odd h]; exact Or.inr h
/-- the value: t * 2 ^ p = top * 2 ^ n -/
theorem plainZ_val : ∀ (t : Int) (n : Nat), (plainZ t n).1 * 2 ^ n = t * 2 ^ (plainZ t n).2.toNat
  | t, 0 => by simp [plainZ]
  | t, n + 1 => by
    by_cases h : t % 2 = 0
    · rw [plainZ_even h]
      have ih := plainZ_val (t / 2) n
      have e : t = 2 * (t / 2) := by omega
      rw [Int.pow_succ, ← Int.mul_assoc, ih]
      generalize (plainZ (t / 2) n).2.toNat = k
      generalize t / 2 = u at e
      rw [e, Int.mul_comm (u * 2 ^ k) 2, Int.mul_assoc]
    · rw [plainZ_odd h]; rfl
/-- one plain form a number -/
theorem plain_one {t u : Int} {p q : Nat} (ht : p = 0 ∨ ¬ t % 2 = 0) (hu : q = 0 ∨ ¬ u % 2 = 0) (e : t * 2 ^ q = u * 2 ^ p) : t = u ∧ p = q := by
  have key : ∀ {t u : Int} {p q : Nat}, (q = 0 ∨ ¬ u % 2 = 0) → t * 2 ^ q = u * 2 ^ p → ¬ p < q := by
    intro t u p q hu e h
    have e1 : q = (q - p - 1) + 1 + p := by omega
    rw [e1, Int.pow_add, ← Int.mul_assoc] at e
    have e2 := Int.eq_of_mul_eq_mul_right (Int.ne_of_gt (Int.pow_pos (by decide))) e
    rw [Int.pow_succ, ← Int.mul_assoc] at e2
    omega
  have h1 := key hu e
  have h2 := key ht e.symm
  have h3 : p = q := by omega
  subst h3
  exact ⟨Int.eq_of_mul_eq_mul_right (Int.ne_of_gt (Int.pow_pos (by decide))) e, rfl⟩
/-- two numbers by any of their forms -/
theorem scale (a c : Int) (b d : Nat) : ∃ S : Int, 0 < S ∧ ∃ S' : Int, 0 < S' ∧ (plainZ a b).1 * 2 ^ (plainZ c d).2.toNat * S = a * 2 ^ d * S' ∧ (plainZ c d).1 * 2 ^ (plainZ a b).2.toNat * S = c * 2 ^ b * S' := by
  have v1 := plainZ_val a b
  have v2 := plainZ_val c d
  generalize plainZ a b = x at *
  generalize plainZ c d = y at *
  refine ⟨2 ^ b * 2 ^ d, Int.mul_pos (Int.pow_pos (by decide)) (Int.pow_pos (by decide)), 2 ^ x.2.toNat * 2 ^ y.2.toNat, Int.mul_pos (Int.pow_pos (by decide)) (Int.pow_pos (by decide)), ?_, ?_⟩
  · generalize (2 : Int) ^ y.2.toNat = Y at *
    generalize (2 : Int) ^ x.2.toNat = X at *
    generalize (2 : Int) ^ b = B at *
    generalize (2 : Int) ^ d = D at *
    have : x.1 * Y * (B * D) = (x.1 * B) * (Y * D) := by ac_rfl
    rw [this, v1]; ac_rfl
  · generalize (2 : Int) ^ y.2.toNat = Y at *
    generalize (2 : Int) ^ x.2.toNat = X at *
    generalize (2 : Int) ^ b = B at *
    generalize (2 : Int) ^ d = D at *
    have : y.1 * X * (B * D) = (y.1 * D) * (X * B) := by ac_rfl
    rw [this, v2]; ac_rfl
theorem lt_forms (a c : Int) (b d : Nat) : ((plainZ a b).1 * 2 ^ (plainZ c d).2.toNat < (plainZ c d).1 * 2 ^ (plainZ a b).2.toNat) ↔ (a * 2 ^ d < c * 2 ^ b) := by
  obtain ⟨S, hS, S', hS', e1, e2⟩ := scale a c b d
  constructor
  · intro h
    have h1 := Int.mul_lt_mul_of_pos_right h hS
    rw [e1, e2] at h1
    exact Int.lt_of_mul_lt_mul_right h1 (Int.le_of_lt hS')
  · intro h
    have h1 := Int.mul_lt_mul_of_pos_right h hS'
    rw [← e1, ← e2] at h1
    exact Int.lt_of_mul_lt_mul_right h1 (Int.le_of_lt hS)
theorem eq_forms (a c : Int) (b d : Nat) : ((plainZ a b).1 = (plainZ c d).1 ∧ (plainZ a b).2 = (plainZ c d).2) ↔ (a * 2 ^ d = c * 2 ^ b) := by
  obtain ⟨S, hS, S', hS', e1, e2⟩ := scale a c b d
  have w1 := plainZ_le a b
  have w2 := plainZ_le c d
  constructor
  · rintro ⟨h1, h2⟩
    have h3 : (plainZ a b).1 * 2 ^ (plainZ c d).2.toNat * S = (plainZ c d).1 * 2 ^ (plainZ a b).2.toNat * S := by rw [h1, h2]
    rw [e1, e2] at h3
    exact Int.eq_of_mul_eq_mul_right (Int.ne_of_gt hS') h3
  · intro h
    rw [h, ← e2] at e1
    have h1 := Int.eq_of_mul_eq_mul_right (Int.ne_of_gt hS) e1
    have p1 := plainZ_plain a b
    have p2 := plainZ_plain c d
    have r := plain_one (p := (plainZ a b).2.toNat) (q := (plainZ c d).2.toNat) (by omega) (by omega) h1
    exact ⟨r.1, by omega⟩
theorem bitAnd_one (x : Int) : Builtin.bitAnd x 1 = x % 2 := by
  exact PyProof.Rows.bitAnd_m1 x
end Mine
namespace Mine
open PySem PySem.Spec PyProof.Rows L2
open Evl (Ex)
/-- what of the class Dyadic's text is needed -/
structure FDyadic (K : PySem.W.Frag) : Prop where
  cl : Cls K (He.ga K "Dyadic")
  nt : NoAttr K (He.ga K "Dyadic") "_top"
  np : NoAttr K (He.ga K "Dyadic") "_power"
theorem ktp : ¬ (("_top" : Str) = "_power") := by decide +kernel
/-- its attributes -/
def dfs (t p : Int) : List (Str × V) := putF "_power" (.int p) (putF "_top" (.int t) [])
theorem dfs_top (t p : Int) : (dfs t p).lookup ("_top" : Str) = some (.int t) := by
  unfold dfs
  rw [lookup_putF, if_neg ktp, lookup_putF, if_pos rfl]
theorem dfs_power (t p : Int) : (dfs t p).lookup ("_power" : Str) = some (.int p) := by
  unfold dfs
  rw [lookup_putF, if_pos rfl]
theorem dfs_no (t p : Int) {m : Str} (h1 : ¬ m = "_power") (h2 : ¬ m = "_top") : (dfs t p).lookup m = none := by
  unfold dfs
  rw [lookup_putF, if_neg h1, lookup_putF, if_neg h2]
  all_goals rfl
theorem dfs_len (t p : Int) : (dfs t p).length < 1000 := by
  have h := length_putF "_power" (V.int p) (putF "_top" (V.int t) [])
  have h2 := length_putF "_top" (V.int t) []
  simp only [List.length_nil] at h2
  unfold dfs; omega
def okTop (a b : Int) : Prop := (-1000000000000 ≤ a ∧ a ≤ 1000000000000) ∧ 0 ≤ b ∧ b ≤ 40
/-- a Dyadic stands at a: its plain form's top and power -/
def DyAt (K : PySem.W.Frag) (H : Hp) (a : Addr) (t p : Int) : Prop := ∃ dx, H a = some (.ins (He.ga K "Dyadic") dx (dfs t p))
theorem DyAt.ex {K : PySem.W.Frag} {H H' : Hp} {a : Addr} {t p : Int} (h : DyAt K H a t p) (e : Ex H H') : DyAt K H' a t p :=
  let ⟨dx, q⟩ := h
  ⟨dx, e _ _ q⟩
theorem dy_inj {K : PySem.W.Frag} {H : Hp} {a : Addr} {t p t' p' : Int} (h : DyAt K H a t p) (h' : DyAt K H a t' p') : t = t' ∧ p = p' := by
  obtain ⟨dx, h⟩ := h
  obtain ⟨dx', h'⟩ := h'
  have e := Option.some.inj (h.symm.trans h')
  injection e with _ _ e
  have e1 := congrArg (fun l => List.lookup ("_top" : Str) l) e
  have e2 := congrArg (fun l => List.lookup ("_power" : Str) l) e
  simp only [dfs_top, dfs_power, Option.some.injEq, V.int.injEq] at e1 e2
  exact ⟨e1, e2⟩
theorem dy_tr {K : PySem.W.Frag} {H H' : Hp} {a : Addr} {t p : Int} (e : Ex H H') (h : DyAt K H a t p) : DyAt K H' a t p := h.ex e
theorem dy_prop {K : PySem.W.Frag} {H : Hp} {a : Addr} {t p : Int} {P : Addr → Prop} (h : DyAt K H a t p) (q : P a) :
    ∃ b dx fs, V.ref a = V.ref b ∧ H b = some (HO.ins (He.ga K "Dyadic") dx fs) ∧ P b :=
  let ⟨dx, e⟩ := h
  ⟨a, dx, _, rfl, e, q⟩
theorem dy_isC {K : PySem.W.Frag} {H : Hp} {Q : VK} {a : Addr} {t p : Int} (h : DyAt K H a t p) (q : Q (.bl true) H) : rIsC (He.ga K "Dyadic") [.ref a, .ref (He.ga K "Dyadic")] H Q :=
  let ⟨dx, e⟩ := h
  ⟨a, dx, _, rfl, e, q⟩
/-- x.m(..): what a method call asks of a Dyadic -/
theorem dy_meth {K : PySem.W.Frag} {H : Hp} {a : Addr} {t p : Int} {m : Str} {P : Prop} (h : DyAt K H a t p) (h1 : ¬ m = "_power") (h2 : ¬ m = "_top") (q : P) :
    ∃ b dx fs, V.ref a = V.ref b ∧ H b = some (HO.ins (He.ga K "Dyadic") dx fs) ∧ fs.lookup m = none ∧ P :=
  let ⟨dx, e⟩ := h
  ⟨a, dx, _, rfl, e, dfs_no _ _ h1 h2, q⟩
end Mine
namespace Mine
open PySem L2
/-- the age of a number in plain form -/
def ageZ (t p : Int) : Int := if p = 0 then (if t < 0 then -t else t) else (if t < 0 then -t else t) / 2 ^ p.toNat + p + 1
def ageN : Nat → Nat → Nat
  | n, 0 => n
  | n, p + 1 => if n % 2 = 0 then ageN (n / 2) p else n / 2 ^ (p + 1) + (p + 1) + 1
theorem ageN_even {n p : Nat} (h : n % 2 = 0) : ageN n (p + 1) = ageN (n / 2) p := by
  show (if n % 2 = 0 then _ else _) = _
  rw [if_pos h]
theorem ageN_odd {n p : Nat} (h : ¬ n % 2 = 0) : ageN n (p + 1) = n / 2 ^ (p + 1) + (p + 1) + 1 := by
  show (if n % 2 = 0 then _ else _) = _
  rw [if_neg h]
theorem abs_if (t : Int) : (if t < 0 then -t else t) = (t.natAbs : Int) := by split <;> omega
theorem ageZ_N : ∀ (t : Int) (p : Nat), ageZ (plainZ t p).1 (plainZ t p).2 = (ageN t.natAbs p : Nat)
  | t, 0 => by
    show (if (0 : Int) = 0 then _ else _) = _
    rw [if_pos rfl, abs_if]; rfl
  | t, p + 1 => by
    by_cases h : t % 2 = 0
    · rw [plainZ_even h, ageN_even (by omega), ageZ_N (t / 2) p]
      congr 2; omega
    · rw [plainZ_odd h, ageN_odd (by omega)]
      show (if ((p + 1 : Nat) : Int) = 0 then _ else _) = _
      rw [if_neg (by omega), abs_if, Int.toNat_natCast]
      push_cast
      rfl
theorem plainZ_idem : ∀ (t : Int) (p : Nat), plainZ (plainZ t p).1 (plainZ t p).2.toNat = plainZ t p
  | t, 0 => rfl
  | t, p + 1 => by
    by_cases h : t % 2 = 0
    · rw [plainZ_even h]; exact plainZ_idem _ _
    · rw [plainZ_odd h]
      show plainZ t (((p + 1 : Nat) : Int)).toNat = _
      rw [Int.toNat_natCast, plainZ_odd h]
theorem plainZ_le_abs : ∀ (t : Int) (p : Nat), (plainZ t p).1.natAbs ≤ t.natAbs
  | t, 0 => Nat.le_refl _
  | t, p + 1 => by
    by_cases h : t % 2 = 0
    · rw [plainZ_even h]
      have := plainZ_le_abs (t / 2) p
      omega
    · rw [plainZ_odd h]; exact Nat.le_refl _
theorem div_half (m p : Nat) : m / 2 ^ (p + 1) = m / 2 / 2 ^ p := by
  rw [Nat.pow_succ, Nat.mul_comm, Nat.div_div_eq_div_mul]
theorem age_pair : ∀ (p m : Nat), max (ageN m p) (ageN (m + 1) p) = m / 2 ^ p + p + 1
  | 0, m => by
    show max m (m + 1) = m / 2 ^ 0 + 0 + 1
    rw [Nat.pow_zero, Nat.div_one]; omega
  | p + 1, m => by
    by_cases h : m % 2 = 0
    · rw [ageN_even h, ageN_odd (by omega), div_half, div_half m]
      have e : (m + 1) / 2 = m / 2 := by omega
      rw [e]
      have ih := age_pair p (m / 2)
      omega
    · rw [ageN_odd h, ageN_even (by omega), div_half]
      have ih := age_pair p (m / 2)
      have e : (m + 1) / 2 = m / 2 + 1 := by omega
      rw [e]
      omega
/-- a number that is no integer is one older than the older of its neighbours -/
theorem age_next {n p : Nat} (h : n % 2 = 1) : ageN n (p + 1) = 1 + max (ageN (n - 1) (p + 1)) (ageN (n + 1) (p + 1)) := by
  rw [ageN_odd (by omega), ageN_even (by omega), ageN_even (by omega), div_half]
  have e1 : (n - 1) / 2 = n / 2 := by omega
  have e2 : (n + 1) / 2 = n / 2 + 1 := by omega
  rw [e1, e2, age_pair]
  omega
end Mine
namespace Mine
open PySem L2
/-! numbers in parts of 2 ** 200 -/
def sv (x : Int) (n : Nat) : Int := x * 2 ^ (200 - n)
theorem sv_eq {x y : Int} {n m : Nat} (hn : n ≤ 200) (hm : m ≤ 200) : sv x n = sv y m ↔ x * 2 ^ m = y * 2 ^ n := by
  unfold sv
  have e1 : (2 : Int) ^ (200 - n) * (2 ^ n * 2 ^ m) = 2 ^ 200 * 2 ^ m := by
    rw [← Int.mul_assoc, ← Int.pow_add]; congr 2; omega
  have e2 : (2 : Int) ^ (200 - m) * (2 ^ n * 2 ^ m) = 2 ^ 200 * 2 ^ n := by
    rw [Int.mul_comm (2 ^ n), ← Int.mul_assoc, ← Int.pow_add]; congr 2; omega
  have h1 : (2 : Int) ^ n * 2 ^ m ≠ 0 := Int.ne_of_gt (Int.mul_pos (Int.pow_pos (by decide)) (Int.pow_pos (by decide)))
  have h2 : (2 : Int) ^ 200 ≠ 0 := Int.ne_of_gt (Int.pow_pos (by decide))
  generalize (2 : Int) ^ 200 = Z at *
  generalize (2 : Int) ^ (200 - n) = A at *
  generalize (2 : Int) ^ (200 - m) = B at *
  generalize (2 : Int) ^ n = C at *
  generalize (2 : Int) ^ m = D at *
  constructor
  · intro h
    have h3 : x * A * (C * D) = y * B * (C * D) := by rw [h]
    rw [Int.mul_assoc, e1, Int.mul_assoc, e2] at h3
    have h4 : x * D * Z = y * C * Z := by
      have a1 : x * D * Z = x * (Z * D) := by ac_rfl
      have a2 : y * C * Z = y * (Z * C) := by ac_rfl
      rw [a1, a2, h3]
    exact Int.eq_of_mul_eq_mul_right h2 h4
  · intro h
    have h3 : x * A * (C * D) = y * B * (C * D) := by
      rw [Int.mul_assoc, e1, Int.mul_assoc, e2]
      have a1 : x * (Z * D) = x * D * Z := by ac_rfl
      have a2 : y * (Z * C) = y * C * Z := by ac_rfl
      rw [a1, a2, h]
    exact Int.eq_of_mul_eq_mul_right h1 h3
theorem sv_plain (a : Int) {b : Nat} (hb : b ≤ 200) : sv (plainZ a b).1 (plainZ a b).2.toNat = sv a b := by
  have h := plainZ_le a b
  exact (sv_eq (by omega) hb).mpr (plainZ_val a b)
theorem sv_lift {x : Int} {n k : Nat} (h : n + k ≤ 200) : sv (x * 2 ^ k) (n + k) = sv x n := by
  unfold sv
  rw [Int.mul_assoc, ← Int.pow_add]
  congr 2; omega
theorem sv_add (x y : Int) (n : Nat) : sv (x + y) n = sv x n + sv y n := by unfold sv; rw [Int.add_mul]
theorem sv_sub (x y : Int) (n : Nat) : sv (x - y) n = sv x n - sv y n := by unfold sv; rw [Int.sub_mul]
theorem sv_neg (x : Int) (n : Nat) : sv (-x) n = - sv x n := by unfold sv; rw [Int.neg_mul]
theorem sv_half {x : Int} {n : Nat} (h : n + 1 ≤ 200) : 2 * sv x (n + 1) = sv x n := by
  unfold sv
  have e : 200 - n = (200 - (n + 1)) + 1 := by omega
  rw [e, Int.pow_succ]
  generalize (2 : Int) ^ (200 - (n + 1)) = Z
  rw [Int.mul_comm Z 2]
  ac_rfl
theorem sv_sum {x y : Int} {n m : Nat} (h : n + m ≤ 200) : sv (x * 2 ^ m + y * 2 ^ n) (n + m) = sv x n + sv y m := by
  rw [sv_add, sv_lift h, Nat.add_comm n m, sv_lift (by omega)]
theorem sv_dif {x y : Int} {n m : Nat} (h : n + m ≤ 200) : sv (x * 2 ^ m - y * 2 ^ n) (n + m) = sv x n - sv y m := by
  rw [sv_sub, sv_lift h, Nat.add_comm n m, sv_lift (by omega)]
theorem plain_of_sv {a c : Int} {b d : Nat} (hb : b ≤ 200) (hd : d ≤ 200) (h : sv a b = sv c d) : plainZ a b = plainZ c d := by
  have h1 := (eq_forms a c b d).mpr ((sv_eq hb hd).mp h)
  exact Prod.ext h1.1 h1.2
/-- a text's number in forty parts -/
theorem sv_forty {a : Int} {b : Nat} (h : b ≤ 40) : sv (a * 2 ^ (40 - b)) 40 = sv a b := by
  have e : 40 = b + (40 - b) := by omega
  have := sv_lift (x := a) (n := b) (k := 40 - b) (by omega)
  rw [← e] at this
  exact this
end Mine
namespace Mine
open PySem PySem.Spec PyProof.Rows L2
open Evl (Ex)
open SX (S)
/-! texts of numbers, by their signs -/
def intL (t : Int) : List Nat := if t < 0 then 45 :: TL.numL t.natAbs else TL.numL t.natAbs
theorem int_S (t : Int) : Str.ofString (toString t) = S (intL t) := by
  unfold intL
  by_cases h : t < 0
  · rw [if_pos h, PyProof.Rows.toString_neg h]
    have e : (0 : Int) - t = ((t.natAbs : Nat) : Int) := by omega
    rw [e]
    apply TL.ext_tl
    rw [TL.tl_ofString, String.toList_append, List.map_append]
    have z := congrArg TL.tl (SX.num_S t.natAbs)
    rw [TL.tl_ofString] at z
    rw [z]; rfl
  · rw [if_neg h]
    have e : t = ((t.natAbs : Nat) : Int) := by omega
    rw [e, SX.num_S]; simp
def txtL (t p : Int) : List Nat := if p = 0 then intL t else intL t ++ (47 :: TL.numL (2 ^ p.toNat))
theorem slash_S : (("/" : Str)) = S [47] := by apply TL.ext_tl; rfl
theorem minus_S : (("-" : Str)) = S [45] := by apply TL.ext_tl; rfl
theorem empty_S : (("" : Str)) = S [] := by apply TL.ext_tl; rfl
theorem digits_S : (("0123456789" : Str)) = S [48, 49, 50, 51, 52, 53, 54, 55, 56, 57] := by apply TL.ext_tl; rfl
theorem numL_small {n k : Nat} (hk : 0 < k) (h : n < 10 ^ k) : (TL.numL n).length ≤ k := TL.numL_len hk h
theorem intL_len {t : Int} (h : -1000000000000 ≤ t ∧ t ≤ 1000000000000) : (intL t).length ≤ 14 := by
  have z := numL_small (n := t.natAbs) (k := 13) (by decide) (by omega)
  unfold intL
  split
  · rw [List.length_cons]; omega
  · omega
theorem pw_len {p : Int} (h : 0 ≤ p ∧ p ≤ 40) : (TL.numL (2 ^ p.toNat)).length ≤ 13 := by
  refine numL_small (by decide) ?_
  have h1 : 2 ^ p.toNat ≤ 2 ^ 40 := Nat.pow_le_pow_right (by decide) (by omega)
  have h2 : 2 ^ 40 < 10 ^ 13 := by decide
  omega
theorem pw_cast (n : Nat) : ((2 : Int) ^ n) = ((2 ^ n : Nat) : Int) := by simp
theorem intL_ne (t : Int) : intL t ≠ [] := by
  unfold intL
  split
  · exact List.cons_ne_nil _ _
  · exact TL.numL_ne _
theorem intL_free {t : Int} {c : Nat} (h : c ≠ 45 ∧ (c < 48 ∨ 57 < c)) : c ∉ intL t := by
  have z := TL.numL_free (n := t.natAbs) (s := c) h.2
  unfold intL
  split
  · intro m
    rcases List.mem_cons.mp m with e | m
    · exact h.1 e
    · exact z m
  · exact z
theorem intL_int {t : Int} (h : -1000000000000 ≤ t ∧ t ≤ 1000000000000) : intText? (S (intL t)) = some t := by
  have hl := intL_len h
  by_cases hn : t < 0
  · have e : intL t = 45 :: TL.numL t.natAbs := by unfold intL; rw [if_pos hn]
    have z := intText_neg (x := S (intL t)) (cs := TL.numL t.natAbs) (by rw [e]) (TL.numL_digits _) (TL.numL_ne _) (by rw [SX.S_len]; omega)
    rw [z, TL.numL_val]; congr 1; omega
  · have e : intL t = TL.numL t.natAbs := by unfold intL; rw [if_neg hn]
    rw [e, ← SX.num_S, TL.int_num (by rw [← e]; omega)]; congr 1; omega
theorem rm_minus (l : List Nat) : Txt.removeprefix (S l) (S [45]) = S (if l.head? = some 45 then l.drop 1 else l) := by
  unfold Txt.removeprefix
  have e : Builtin.Str.subAt (S l) (S [45]) 0 = decide (l.head? = some 45) := by
    rw [StrLaws.subAt_eq]
    show ((l.drop 0).take 1 == [45]) = _
    cases l with
    | nil => rfl
    | cons a r =>
      show ([a] == [45]) = decide (some a = some 45)
      by_cases h : a = 45
      · subst h; rfl
      · rw [decide_eq_false (by simpa using h)]
        simp [h]
  rw [e]
  by_cases h : l.head? = some 45
  · rw [decide_eq_true h, if_pos rfl, if_pos h]
    cases l with
    | nil => cases h
    | cons a r =>
      show Txt.affix (S (a :: r)) (some (1, (S (a :: r)).length)) = S r
      unfold Txt.affix
      have hl : (S (a :: r)).length = r.length + 1 := by rw [SX.S_len]; rfl
      dsimp only
      rw [if_neg (by rw [hl]; simp), hl]
      apply TL.ext_tl
      show ((a :: r).toArray.extract 1 (r.length + 1)).toList = r
      simp
  · rw [decide_eq_false h, if_neg (by decide), if_neg h]
    rfl
theorem rm_intL (t : Int) : Txt.removeprefix (S (intL t)) (S [45]) = S (TL.numL t.natAbs) := by
  rw [rm_minus]
  congr 1
  unfold intL
  by_cases h : t < 0
  · rw [if_pos h]; rfl
  · rw [if_neg h, if_neg]
    intro e
    have m : (45 : Nat) ∈ TL.numL t.natAbs := List.mem_of_head? e
    exact TL.numL_free (Or.inl (by decide)) m
theorem part_txt {t p : Int} : Txt.partition (S (txtL t p)) (S [47]) = if p = 0 then (S (intL t), S [], S []) else (S (intL t), S [47], S (TL.numL (2 ^ p.toNat))) := by
  unfold txtL
  by_cases h : p = 0
  · rw [if_pos h, if_pos h]
    exact SX.partition_none (by simp) (SX.par_head_none (intL_free ⟨by decide, by decide⟩))
  · rw [if_neg h, if_neg h]
    exact SX.partition_some (by simp) (SX.par_head (sep := []) _ (intL_free ⟨by decide, by decide⟩))
/-! a method of the class that takes no self -/
structure SMet (K : PySem.W.Frag) (C : Addr) (m : Str) (p g : Addr) : Prop where
  rd : PySem.W.readsIn K C (.type "type") = true
  ga : PySem.W.specialIn K (.ref C) "__getattribute__" = some (some (.builtin "type.__getattribute__"))
  at_ : PySem.W.findCls K (.ref C) (.type "type") m = some (.get (.builtin "staticmethod.__get__") (.ref p) .none (.ref C))
  rc : ∃ rest, PySem.W.recIn K p "staticmethod" = some (.ref g :: rest)
def tSMeth (C : Addr) (sp : Sp) (dvs : List V) (E : XK) (ta : TE) (t : TA) : TE := fun σ H Q => ta σ H fun x H1 => x = .ref C ∧ t σ H1 fun vs H2 => sp (vs ++ dvs) H2 Q E
section
variable {X : Cx} {CX : CXT} {k : Nat} {C p g : Addr} {fd : FuncData} {ps : List Str} {dvs : List V} {ds : List Value} {sp : Sp} {E : XK} {o e : Expr} {es : List Expr} {m : Str} {pos apos : Pos} {ta : TE} {t : TA} {pl : Sem Bool}
theorem pe_smeth (he : PE X o ta) (c : SMet X.K C m p g) (kp : PySem.W.keepIn X.K (.ref g) = true) (F : FnOk X.prog X.w X.K X.mg X.base CX k g fd ps sp) (hr : Room k X.A) (hb : Binds X.K fd ps ds) (hd : Vals dvs ds) (hx : Passes CX X E) (ha : PA X (e :: es) t)
    (hst : starEach (e :: es) X.env = (false, eval e X.env) :: starEach es X.env := by rfl) (hpl : (backTo pos (starEach es X.env)).any (·.1) = false := by rfl)
    (ht : eval (.Call (.Attribute o m apos) (e :: es) [] pos) X.env = (do
      let ov ← eval o X.env
      standAt apos.atName
      let (f, first) ← holding [ov] (getMethod ov m pl)
      callWith pos f first (backTo pos (starEach (e :: es) X.env)) (backToKw pos (keywordEach [] X.env))) := by rfl) :
    PE X (.Call (.Attribute o m apos) (e :: es) [] pos) (tSMeth C sp dvs E ta t) := by
  constructor
  intro pins s σ H Q I h
  refine PySem.W.methodCall_KW (pl := pl) (thn (he.run pins s σ H _ I h) ?_) ht
  rintro u s1 ⟨x, H1, I1, rx, ex, q⟩
  subst ex
  obtain rfl : u = Value.ref C := rx
  obtain ⟨rest, hp⟩ := c.rc
  refine PySem.W.method_cls I1.kIn c.ga (PySem.W.cls_bind I1.kIn c.rd c.at_ (wpAny_call (PySem.W.sm_get (s := { s1 with toks := s1.toks + 1 }) I1.kIn hp (PySem.W.handed_on rfl ?_))))
  have I2 := I1.tok (s1.toks + 1)
  refine PySem.W.callWith_K (h₀ := X.base) I2.ok.mod.kin kp (thn (ha.run pos pins _ σ H1 _ I2 q) ?_) hst hpl
  rintro us s3 ⟨vs, H2, I3, rv, q2⟩
  exact ⟨I3.kIn, run_fn F hr hb hd hx I3 rv q2⟩
end
open PySem.W (Frag)
def statG (K : Frag) (C f : Str) : Addr := match PySem.W.recIn K (He.ma K (He.ga K C) f) "staticmethod" with
  | some (.ref g :: _) => g
  | _ => 0
def statB (K : Frag) (C f : Str) : Bool :=
  PySem.W.readsIn K (He.ga K C) (.type "type") &&
  (He.eqO (PySem.W.specialIn K (.ref (He.ga K C)) "__getattribute__") (some (some (.builtin "type.__getattribute__"))) &&
  ((match PySem.W.findCls K (.ref (He.ga K C)) (.type "type") f with
    | some (.get g a obj tp) => decide (g = .builtin "staticmethod.__get__") && (decide (a = .ref (He.ma K (He.ga K C) f)) && (decide (obj = .none) && decide (tp = .ref (He.ga K C))))
    | _ => false) &&
  match PySem.W.recIn K (He.ma K (He.ga K C) f) "staticmethod" with
  | some (.ref _ :: _) => true
  | _ => false))
theorem stat_ok {K : Frag} {C f : Str} (h : statB K C f = true) : SMet K (He.ga K C) f (He.ma K (He.ga K C) f) (statG K C f) := by
  unfold statB at h
  rw [Bool.and_eq_true, Bool.and_eq_true, Bool.and_eq_true] at h
  obtain ⟨h1, h2, h3, h4⟩ := h
  refine ⟨h1, He.eqO_ok h2, ?_, ?_⟩
  · split at h3
    · rename_i g a obj tp e
      rw [Bool.and_eq_true, Bool.and_eq_true, Bool.and_eq_true] at h3
      rw [e, of_decide_eq_true h3.1, of_decide_eq_true h3.2.1, of_decide_eq_true h3.2.2.1, of_decide_eq_true h3.2.2.2]
    · cases h3
  · unfold statG
    split at h4
    · rename_i g rest e
      rw [e]; exact ⟨_, rfl⟩
    · cases h4
end Mine
namespace Mine
open PySem PySem.Spec PyProof.Rows L2
open Evl (Ex)
open SX (S)
def rPartS : V → List V → Hp → VK → Prop := fun x xs H Q => ∃ a b, x = .str a ∧ xs = [.str b] ∧ (b.length == 0) = false ∧ a.length ≤ sizeLine ∧
  ∀ p, H p = none → Q (.ref p) (upd H p (.tup [.str (Txt.partition a b).1, .str (Txt.partition a b).2.1, .str (Txt.partition a b).2.2]))
def rRmPre : V → List V → Hp → VK → Prop := fun x xs H Q => ∃ a b, x = .str a ∧ xs = [.str b] ∧ a.length ≤ sizeLine ∧ Q (.str (Txt.removeprefix a b)) H
def rIntS : List V → Hp → VK → Prop := fun xs H Q => ∃ a n, xs = [.str a] ∧ PySem.intText? a = some n ∧ a.length ≤ 640 ∧ Q (.int n) H
def tJoin (ts : List TE) : TE := fun σ H Q => tJs ts Str.empty σ H fun out H1 => Q (.str out) H1
end Mine
namespace Mine
open PySem PySem.Spec PyProof.Rows L2
open Evl (Ex)
open SX (S)
theorem log_ok {t : Int} (h : -1000000000000000 ≤ t ∧ t ≤ 1000000000000000) : t.natAbs.log2 < 1920 := by
  have h1 : (2 : Nat) ^ 60 = 1152921504606846976 := by decide
  have h2 : t.natAbs < 2 ^ 60 := by rw [h1]; omega
  exact Nat.lt_of_lt_of_le (PySem.Flt.log2_lt_of (by decide) h2) (by decide)
theorem pw_ok {p : Int} (h : 0 ≤ p ∧ p ≤ 40) : ((1 : Int) * 2 ^ p.toNat) = ((2 ^ p.toNat : Nat) : Int) ∧ ((2 ^ p.toNat : Nat) : Int) ≤ 1099511627776 ∧ (0 : Int) ≤ ((2 ^ p.toNat : Nat) : Int) := by
  have h1 : 2 ^ p.toNat ≤ 2 ^ 40 := Nat.pow_le_pow_right (by decide) (by omega)
  have h2 : 2 ^ 40 = 1099511627776 := by decide
  rw [h2] at h1
  exact ⟨by rw [Int.one_mul, pw_cast], (by have z := Int.ofNat_le.mpr h1; exact z), Int.natCast_nonneg _⟩
theorem line_ok {n : Nat} (h : n ≤ 600) : n ≤ sizeLine := Nat.le_trans h (by decide)
theorem okTop_pl {a b : Int} (h : okTop a b) : okTop (plainZ a b.toNat).1 (plainZ a b.toNat).2 := by
  have h1 := plainZ_le a b.toNat
  have h2 := plainZ_le_abs a b.toNat
  obtain ⟨⟨a1, a2⟩, b1, b2⟩ := h
  exact ⟨⟨by omega, by omega⟩, by omega, by omega⟩
theorem txt_len {t p : Int} (h : okTop t p) : (txtL t p).length ≤ 40 := by
  have h1 := intL_len h.1
  have h2 := pw_len h.2
  unfold txtL
  split
  · omega
  · rw [List.length_append, List.length_cons]; omega
section
variable {σ : L2.St} {H : Hp} {Q : VK} {K : PySem.W.Frag}
theorem k_eqS {a b : List Nat} (q : Q (.bl (decide (a = b))) H) : rEq (.str (S a)) (.str (S b)) H Q := ⟨rfl, by
  have e : decide (V.str (S a) = V.str (S b)) = decide (a = b) := decide_eq_decide.mpr ⟨fun h => SX.S_inj (V.str.inj h), fun h => by rw [h]⟩
  rw [e]; exact q⟩
theorem k_neS {a b : List Nat} (q : Q (.bl (!decide (a = b))) H) : rNe (.str (S a)) (.str (S b)) H Q := ⟨rfl, by
  have e : decide (V.str (S a) = V.str (S b)) = decide (a = b) := decide_eq_decide.mpr ⟨fun h => SX.S_inj (V.str.inj h), fun h => by rw [h]⟩
  rw [e]; exact q⟩
theorem k_tys {a : Str} {P : Prop} (q : P) : tyV K "str" (.str a) H ∧ P := ⟨by first | exact Or.inr ⟨rfl, a, rfl⟩ | exact Or.inr (Or.inl ⟨rfl, a, rfl⟩) | (unfold tyV; simp), q⟩
theorem k_isiSS {a : Str} (q : Q (.bl true) H) : rIsi K [.str a, .ty "str"] H Q :=
  k_isi (cls_ty "str") (.base (.str a)) (kit_ty (b := "str") (r := true) (by decide +kernel)) q
theorem k_typS {a : Str} (q : Q (.ty "str") H) : rTyp K [.str a] H Q := ⟨_, _, rfl, .str a, q⟩
theorem k_NT {a b : String} (q : Q (.bl (!decide (a = b))) H) : rNT (.ty a) (.ty b) H Q := ⟨a, b, rfl, rfl, q⟩
theorem k_partS {a b : List Nat} (h : b ≠ []) (hl : a.length ≤ 600) (q : ∀ p, H p = none → Q (.ref p) (upd H p (.tup [.str (Txt.partition (S a) (S b)).1, .str (Txt.partition (S a) (S b)).2.1, .str (Txt.partition (S a) (S b)).2.2]))) : rPartS (.str (S a)) [.str (S b)] H Q :=
  ⟨S a, S b, rfl, rfl, by
    show ((S b).length == 0) = false
    rw [SX.S_len]
    cases b with
    | nil => exact absurd rfl h
    | cons _ _ => rfl, by rw [SX.S_len]; exact line_ok hl, q⟩
theorem k_rm {a b : List Nat} (hl : a.length ≤ 600) (q : Q (.str (Txt.removeprefix (S a) (S b))) H) : rRmPre (.str (S a)) [.str (S b)] H Q := ⟨S a, S b, rfl, rfl, by rw [SX.S_len]; exact line_ok hl, q⟩
theorem k_intS {a : List Nat} {n : Int} (e : intText? (S a) = some n) (hl : a.length ≤ 600) (q : Q (.int n) H) : rIntS [.str (S a)] H Q := ⟨S a, n, rfl, e, by rw [SX.S_len]; omega, q⟩
theorem k_lenS {a : List Nat} (hl : a.length ≤ 600) (q : Q (.int a.length) H) : rLenS [.str (S a)] H Q := ⟨S a, rfl, by rw [SX.S_len]; exact line_ok hl, by rw [SX.S_len]; exact q⟩
theorem k_strI {i : Int} (h : -1000000000000000 ≤ i ∧ i ≤ 1000000000000000) (q : Q (.str (S (intL i))) H) : rStrI [.int i] H Q := ⟨i, rfl, log_ok h, by rw [int_S]; exact q⟩
theorem k_catS {a b : List Nat} (h : a.length + b.length ≤ 600) (q : Q (.str (S (a ++ b))) H) : rCatS (.str (S a)) (.str (S b)) H Q := ⟨S a, S b, rfl, rfl, by rw [SX.S_len, SX.S_len]; exact line_ok h, by rw [SX.S_cat]; exact q⟩
theorem k_inS {c : Nat} {b : List Nat} (q : Q (.bl (decide (c ∈ b))) H) : rInS (.str ⟨#[c]⟩) (.str (S b)) H Q := ⟨c, S b, rfl, rfl, q⟩
theorem k_all {a : Addr} {bs : List Bool} (h : SqL K H a (bs.map V.bl)) (q : Q (.bl (bs.all id)) H) : rAll K [.ref a] H Q := ⟨a, bs, rfl, h, q⟩
theorem k_truS {te : TE} {R : Bool → Hp → Prop} (q : te σ H fun x H' => ∃ k, TruV K x H' k ∧ R k H') : tTru K te σ H R := q
theorem tru_S {a : List Nat} {R : Bool → Prop} (hl : a.length ≤ 600) (q : R (!decide (a = []))) : ∃ k, TruV K (.str (S a)) H k ∧ R k := by
  refine ⟨_, ⟨by rw [SX.S_len]; exact line_ok hl, ?_⟩, q⟩
  rw [SX.S_len]
  cases a with
  | nil => rfl
  | cons c r =>
    show (!decide (c :: r = [])) = (((r.length + 1 : Nat) : Int) != 0)
    rw [decide_eq_false (List.cons_ne_nil _ _)]
    rw [show (((r.length + 1 : Nat) : Int) != 0) = true from bne_iff_ne.mpr (by omega)]
    rfl
theorem lc_txt {l : List Nat} {g : TG} {tt : TT} {te : TE} {vs : List Nat} {H1 : Hp} {D : Addr} {Qd : Hp → Prop} (Pv : Nat → Hp → Prop) (h0 : Pv 0 (upd H1 D (.lst [])))
    (hs : ∀ i c H, l[i]? = some c → Pv i H → g (.str ⟨#[c]⟩) (wipe σ vs) H fun σ2 H2 => wipe σ2 vs = wipe σ vs ∧ tt σ2 H2 fun b H3 =>
      if b = true then te σ2 H3 fun y H4 => ∃ acc, H4 D = some (.lst acc) ∧ acc.length < sizeLine ∧ Pv (i + 1) (upd H4 D (.lst (acc ++ [y]))) else Pv (i + 1) H3) (hd : ∀ H, Pv l.length H → Qd H) :
    ∃ W : Nat → Nat → Hp → Prop, (∃ m, W 0 m (upd H1 D (.lst []))) ∧ ∀ i m H, W i m H →
      ((Its (S l)).stop i H ∧ Qd H) ∨ ((Its (S l)).go i H ∧ ∃ Nx : Hp → Prop, (∀ H', Nx H' → ∃ m', m' < m ∧ W (i + 1) m' H') ∧ ∀ x H', (Its (S l)).yld i H x H' → g x (wipe σ vs) H' fun σ2 H2 => wipe σ2 vs = wipe σ vs ∧ tt σ2 H2 fun b H3 =>
        if b = true then te σ2 H3 fun y H4 => ∃ acc, H4 D = some (.lst acc) ∧ acc.length < sizeLine ∧ Nx (upd H4 D (.lst (acc ++ [y]))) else Nx H3) := by
  refine ⟨fun i m H => i ≤ l.length ∧ m = l.length - i ∧ Pv i H, ⟨l.length, Nat.zero_le _, by omega, h0⟩, ?_⟩
  rintro i m H ⟨hi, rfl, p⟩
  rcases Nat.lt_or_ge i l.length with h | h
  · refine Or.inr ⟨by show i < (S l).cps.size; simpa using h, Pv (i + 1), fun H' p' => ⟨l.length - (i + 1), by omega, by omega, rfl, p'⟩, ?_⟩
    rintro x H' ⟨rfl, c, hc, rfl⟩
    exact hs i c _ (by simpa using hc) p
  · have e : i = l.length := by omega
    subst e
    exact Or.inl ⟨by show (S l).cps.size ≤ l.length; simp, hd H p⟩
end
end Mine
namespace Mine
open PySem PySem.Spec PyProof.Rows L2
open Evl (Ex)
open SX (S)
/-- l is the text of the number (t, p) in its plain form -/
def Good (l : List Nat) (t p : Int) : Prop := okTop t p ∧ (p = 0 ∨ ¬ t % 2 = 0) ∧ l = txtL t p
theorem slf_plain {t p : Int} (h : p = 0 ∨ ¬ t % 2 = 0) (h0 : 0 ≤ p) : plainZ t p.toNat = (t, p) := by
  obtain ⟨P, rfl⟩ : ∃ P : Nat, p = (P : Int) := ⟨p.toNat, by omega⟩
  rw [Int.toNat_natCast]
  cases P with
  | zero => exact plainZ_zero t
  | succ n =>
    have : ¬ t % 2 = 0 := by rcases h with h | h; omega; exact h
    exact plainZ_odd this
/-- a text cut at its first slash -/
theorem part_gen (l : List Nat) : ∃ a s b, Txt.partition (S l) (S [47]) = (S a, S s, S b) ∧ (s = [] ∨ s = [47]) ∧ a.length ≤ l.length := by
  by_cases h : 47 ∈ l
  · obtain ⟨a, b, rfl, ha⟩ := List.eq_append_cons_of_mem h
    exact ⟨a, [47], b, SX.partition_some (by simp) (SX.par_head (sep := []) _ ha), Or.inr rfl, by simp⟩
  · exact ⟨l, [], [], SX.partition_none (by simp) (SX.par_head_none h), Or.inl rfl, Nat.le_refl _⟩
theorem good_part {l a s b : List Nat} {t p : Int} (e : Txt.partition (S l) (S [47]) = (S a, S s, S b)) (g : Good l t p) : a = intL t ∧ ((p = 0 ∧ s = []) ∨ (p ≠ 0 ∧ s = [47] ∧ b = TL.numL (2 ^ p.toNat))) := by
  obtain ⟨ok, pl, rfl⟩ := g
  rw [part_txt] at e
  by_cases h : p = 0
  · rw [if_pos h] at e
    injection e with e1 e
    injection e with e2 e3
    exact ⟨(SX.S_inj e1).symm, Or.inl ⟨h, (SX.S_inj e2).symm⟩⟩
  · rw [if_neg h] at e
    injection e with e1 e
    injection e with e2 e3
    exact ⟨(SX.S_inj e1).symm, Or.inr ⟨h, (SX.S_inj e2).symm, (SX.S_inj e3).symm⟩⟩
theorem intL_one {t u : Int} (h1 : -1000000000000 ≤ t ∧ t ≤ 1000000000000) (h2 : -1000000000000 ≤ u ∧ u ≤ 1000000000000) (e : intL t = intL u) : t = u := by
  have a := intL_int h1
  rw [e, intL_int h2] at a
  exact (Option.some.inj a).symm
theorem pw_one {n m : Nat} (e : TL.numL (2 ^ n) = TL.numL (2 ^ m)) : n = m := (Nat.pow_right_inj (by decide : 1 < 2)).mp (TL.numL_inj e)
theorem good_one {l : List Nat} {t p u q : Int} (g : Good l t p) (g' : Good l u q) : t = u ∧ p = q := by
  obtain ⟨a, s, b, e, hs, _⟩ := part_gen l
  obtain ⟨e1, c1⟩ := good_part e g
  obtain ⟨e2, c2⟩ := good_part e g'
  have ht := intL_one g.1.1 g'.1.1 (e1.symm.trans e2)
  refine ⟨ht, ?_⟩
  have p0 := g.1.2.1
  have q0 := g'.1.2.1
  rcases c1 with ⟨h1, s1⟩ | ⟨h1, s1, b1⟩
  · rcases c2 with ⟨h2, s2⟩ | ⟨h2, s2, b2⟩
    · omega
    · rw [s1] at s2; cases s2
  · rcases c2 with ⟨h2, s2⟩ | ⟨h2, s2, b2⟩
    · rw [s1] at s2; cases s2
    · have := pw_one (b1.symm.trans b2); omega
/-- the answers of _read_top and _read_power -/
def RTop (a : List Nat) (v : V) : Prop := (v = .non ∧ ∀ t, (-1000000000000 ≤ t ∧ t ≤ 1000000000000) → a ≠ intL t) ∨ ∃ t, v = .int t ∧ (-1000000000000 ≤ t ∧ t ≤ 1000000000000) ∧ intText? (S a) = some t
def RPow (b : List Nat) (v : V) : Prop := (v = .non ∧ ∀ n, 1 ≤ n → n ≤ 40 → b ≠ TL.numL (2 ^ n)) ∨ ∃ n : Nat, v = .int n ∧ 1 ≤ n ∧ n ≤ 40 ∧ b = TL.numL (2 ^ n)
def DigsB (d : List Nat) : Prop := d ≠ [] ∧ ∀ c ∈ d, 48 ≤ c ∧ c ≤ 57
instance (d : List Nat) : Decidable (DigsB d) := by unfold DigsB; infer_instance
theorem digs_num (n : Nat) : DigsB (TL.numL n) := ⟨TL.numL_ne n, TL.numL_digits n⟩
theorem text_of_digs {a : List Nat} (h : DigsB (if a.head? = some 45 then a.drop 1 else a)) (hl : a.length ≤ 500) : ∃ n, intText? (S a) = some n := by
  by_cases h45 : a.head? = some 45
  · rw [if_pos h45] at h
    cases a with
    | nil => cases h45
    | cons c r =>
      have ec : c = 45 := by simpa using h45
      subst ec
      exact ⟨_, intText_neg (x := S (45 :: r)) (cs := r) rfl h.2 h.1 (by rw [SX.S_len]; omega)⟩
  · rw [if_neg h45] at h
    exact ⟨_, intText_digits (x := S a) h.2 h.1 (by rw [SX.S_len]; omega)⟩
theorem rm_of {t : Int} : (if (intL t).head? = some 45 then (intL t).drop 1 else intL t) = TL.numL t.natAbs := SX.S_inj ((rm_minus _).symm.trans (rm_intL t))
structure FBadText (K : PySem.W.Frag) : Prop where
  ex : PySem.W.exmOne K (.ref (He.ga K "BadText")) (.ref (He.ga K "PlayError")) = some true
  k1 : PySem.W.kitOne K (.ref (He.ga K "BadText")) (.ref (He.ga K "BadValue")) = some false
  k2 : PySem.W.kitOne K (.ref (He.ga K "BadText")) (.ref (He.ga K "NoMove")) = some false
  k3 : PySem.W.kitOne K (.ref (He.ga K "BadText")) (.ref (He.ga K "Unknown")) = some false
  k4 : PySem.W.kitOne K (.ref (He.ga K "BadText")) (.ref (He.ga K "BadText")) = some true
  k5 : PySem.W.kitOne K (.ref (He.ga K "BadText")) (.type "ValueError") = some true
theorem k_isint {A B : Prop} {i : Int} (q : B) : if decide (V.int i = V.non) = true then A else B := by simpa using q
theorem k_isnon {A B : Prop} (q : A) : if decide (V.non = V.non) = true then A else B := by simpa using q
theorem k_isref {A B : Prop} {a : Addr} (q : B) : if decide (V.ref a = V.non) = true then A else B := by simpa using q
theorem str_S (y : Str) : ∃ l, y = S l := ⟨y.cps.toList, (SX.S_tl y).symm⟩
end Mine
namespace Mine
open PySem PySem.Spec PyProof.Rows L2
open Evl (Ex)
open SX (S)
def tSMethS (C : Addr) (sp : Sp) (dvs : List V) (E : L2.St → XK) (ta : TE) (t : TA) : TE := fun σ H Q => ta σ H fun x H1 => x = .ref C ∧ t σ H1 fun vs H2 => sp (vs ++ dvs) H2 Q (E σ)
section
variable {X : Cx} {CX : CXT} {k : Nat} {C p g : Addr} {fd : FuncData} {ps : List Str} {dvs : List V} {sp : Sp} {E : L2.St → XK} {o e : Expr} {es : List Expr} {m : Str} {pos apos : Pos} {ta : TE} {t : TA} {pl : Sem Bool}
theorem pe_smethS (he : PE X o ta) (c : SMet X.K C m p g) (kp : PySem.W.keepIn X.K (.ref g) = true) (F : FnOk X.prog X.w X.K X.mg X.base CX k g fd ps sp) (hr : Room k X.A) (hb : Binds X.K fd ps []) (hd : Vals ([] : List V) []) (hx : ∀ σ, PassesAt CX X σ (E σ)) (ha : PA X (e :: es) t)
    (hst : starEach (e :: es) X.env = (false, eval e X.env) :: starEach es X.env := by rfl) (hpl : (backTo pos (starEach es X.env)).any (·.1) = false := by rfl)
    (ht : eval (.Call (.Attribute o m apos) (e :: es) [] pos) X.env = (do
      let ov ← eval o X.env
      standAt apos.atName
      let (f, first) ← holding [ov] (getMethod ov m pl)
      callWith pos f first (backTo pos (starEach (e :: es) X.env)) (backToKw pos (keywordEach [] X.env))) := by rfl) :
    PE X (.Call (.Attribute o m apos) (e :: es) [] pos) (tSMethS C sp [] E ta t) := by
  constructor
  intro pins s σ H Q I h
  refine PySem.W.methodCall_KW (pl := pl) (thn (he.run pins s σ H _ I h) ?_) ht
  rintro u s1 ⟨x, H1, I1, rx, ex, q⟩
  subst ex
  obtain rfl : u = Value.ref C := rx
  obtain ⟨rest, hp⟩ := c.rc
  refine PySem.W.method_cls I1.kIn c.ga (PySem.W.cls_bind I1.kIn c.rd c.at_ (wpAny_call (PySem.W.sm_get (s := { s1 with toks := s1.toks + 1 }) I1.kIn hp (PySem.W.handed_on rfl ?_))))
  have I2 := I1.tok (s1.toks + 1)
  refine PySem.W.callWith_K (h₀ := X.base) I2.ok.mod.kin kp (thn (ha.run pos pins _ σ H1 _ I2 q) ?_) hst hpl
  rintro us s3 ⟨vs, H2, I3, rv, q2⟩
  rw [List.append_nil] at q2
  exact ⟨I3.kIn, run_fnS F hr hb (hx σ) I3 rv q2⟩
end
def rRepS : R2 := fun x y H Q => ∃ z n, x = .str z ∧ y = .int n ∧ MulOk z n ∧ Q (.str (Txt.mul z n)) H
theorem op_rep_str {X : Cx} : OpR X (binaryOp .Mult) rRepS := by
  rintro pins s σ H x y v u Q I rx ry ⟨z, n, rfl, rfl, ok, q⟩
  obtain ⟨t, rfl⟩ := rx
  obtain ⟨t', rfl⟩ := ry
  exact SB.mul ok fun t'' k => ⟨.str _, H, I.tok _, ⟨t'', rfl⟩, q⟩
end Mine
namespace Mine
open PySem PySem.Spec PyProof.Rows L2
open Evl (Ex)
open SX (S)
/-- some text of at most n signs -/
def Tx (n : Nat) (v : V) : Prop := ∃ l : List Nat, v = .str (S l) ∧ l.length ≤ n
theorem tx_of {y : Str} {n : Nat} (h : y.cps.toList.length ≤ n) : Tx n (.str y) := ⟨y.cps.toList, by rw [SX.S_tl], h⟩
theorem Tx.up {n m : Nat} {v : V} (h : Tx n v) (hm : n ≤ m) : Tx m v := let ⟨l, e, h1⟩ := h; ⟨l, e, Nat.le_trans h1 hm⟩
theorem cut_S (l : List Nat) (lo hi : Option Int) : ∃ m : List Nat, cutS (S l) lo hi = S m ∧ m.length ≤ l.length := by
  refine ⟨_, rfl, ?_⟩
  rw [List.length_take, List.length_drop]
  show min _ (l.length - _) ≤ l.length
  omega
section
variable {H : Hp} {Q : VK} {K : PySem.W.Frag}
theorem k_slS {l : List Nat} {lo hi : Option Int} (hl : l.length ≤ 600) (q : ∀ m : List Nat, m.length ≤ l.length → Q (.str (S m)) H) : rSlS (.str (S l)) lo hi H Q := by
  obtain ⟨m, e, hm⟩ := cut_S l lo hi
  exact ⟨S l, rfl, by rw [SX.S_len]; exact line_ok hl, by rw [e]; exact q m hm⟩
theorem k_ixS {l : List Nat} {i : Int} {n : Nat} (hn : l.length = n) (hl : n ≤ 600) (h0 : 0 ≤ i) (h1 : i < n) (q : ∀ c, l[i.toNat]? = some c → Q (.str ⟨#[c]⟩) H) : rIxS (.str (S l)) (.int i) H Q := by
  subst hn
  have hk : i.toNat < l.length := by omega
  refine ⟨S l, i, l[i.toNat], rfl, rfl, by rw [SX.S_len]; exact line_ok hl, ?_, q _ (by simp [hk])⟩
  have e : ((i.toNat : Nat) : Int) = i := by omega
  have z : atI l ((i.toNat : Nat) : Int) = some l[i.toNat] := atI_nat (by simp [hk])
  rw [e] at z
  exact z
theorem k_slL {a : Addr} {xs : List V} {lo hi : Option Int} (h : SqL K H a xs) (q : ∀ p, H p = none → Q (.ref p) (upd H p (.lst (cutV xs lo hi)))) : rSlL K (.ref a) lo hi H Q := ⟨a, xs, rfl, h, q⟩
end
theorem one_S (c : Nat) : ((⟨#[c]⟩ : Str)) = S [c] := rfl
/-- a list of digits, cut behind its first k -/
theorem cut_digs {ds : List Int} {k : Nat} (hk : k ≤ ds.length) : cutV (ds.map V.int) (some (k : Int)) none = (ds.drop k).map V.int := by
  unfold cutV
  rw [HT.sIx_nat, HT.sIx_none, List.map_drop, List.length_map, Nat.min_eq_left hk]
  apply List.take_of_length_le
  simp
end Mine
namespace Mine
open PySem PySem.Spec PyProof.Rows L2
section
variable {σ : L2.St} {H : Hp} {Q : VK}
theorem k_tsl {r : V → Option Int → Option Int → Hp → VK → Prop} {te : TE} {tl th : TO} (q : te σ H fun x H1 => tl σ H1 fun l H2 => th σ H2 fun u H3 => r x l u H3 Q) : L2.tSl r te tl th σ H Q := q
theorem k_part {t : TE} {R : Option Int → Hp → Prop} (q : t σ H fun x H1 => ∃ i, x = .int i ∧ R (some i) H1) : tPart t σ H R := q
theorem k_nopart {R : Option Int → Hp → Prop} (q : R none H) : tNoPart σ H R := q
theorem k_exi {R : Int → Prop} {j : Int} (q : R j) : ∃ i, V.int j = V.int i ∧ R i := ⟨j, rfl, q⟩
end
end Mine
namespace Mine
open PySem PySem.Spec PyProof.Rows L2
def rSplitS : V → List V → Hp → VK → Prop := fun x xs H Q => ∃ a b, x = .str a ∧ xs = [.str b] ∧ (b.length == 0) = false ∧ a.length + 2 ≤ sizeLine ∧ ∀ p, H p = none → Q (.ref p) (upd H p (.lst ((Txt.split a b).map V.str)))
end Mine
namespace Mine
open PySem PySem.Spec PyProof.Rows L2
open Evl (Ex)
open SX (S)
/-- the kinds of things that are tried -/
inductive Knd (K : PySem.W.Frag) (H : Hp) : V → Prop
  | non : Knd K H .non
  | bl (b : Bool) : Knd K H (.bl b)
  | int (i : Int) : Knd K H (.int i)
  | str (l : List Nat) : Knd K H (.str (S l))
  | lst {a : Addr} {xs : List V} (h : H a = some (.lst xs)) : Knd K H (.ref a)
  | tup {a : Addr} {xs : List V} (h : H a = some (.tup xs)) : Knd K H (.ref a)
theorem Knd.ty {K : PySem.W.Frag} {H : Hp} {x : V} (k : Knd K H x) : ∃ T, TyB K H x T := by
  cases k
  case non => exact ⟨_, .non⟩
  case bl b => exact ⟨_, .bl b⟩
  case int i => exact ⟨_, .int i⟩
  case str l => exact ⟨_, .str _⟩
  case lst h => exact ⟨_, .lst (k_sq h)⟩
  case tup h => exact ⟨_, .tup (k_st h)⟩
theorem Knd.ex {K : PySem.W.Frag} {H H' : Hp} {x : V} (k : Knd K H x) (e : Ex H H') : Knd K H' x := by
  cases k
  case lst h => exact .lst (e _ _ h)
  case tup h => exact .tup (e _ _ h)
  all_goals constructor
theorem Knd.isStr {K : PySem.W.Frag} {H : Hp} {Q : VK} {x : V} (k : Knd K H x) (h1 : ∀ l, x = .str (S l) → Q (.bl true) H) (h2 : (∀ l, x ≠ .str (S l)) → Q (.bl false) H) : rIsi K [x, .ty "str"] H Q := by
  cases k
  case non => exact k_isi (cls_ty "str") (.base .non) (kit_ty (b := "str") (r := false) (by decide +kernel)) (h2 fun l e => by cases e)
  case bl b => exact k_isi (cls_ty "str") (.base (.bl b)) (kit_ty (b := "str") (r := false) (by decide +kernel)) (h2 fun l e => by cases e)
  case int i => exact k_isi (cls_ty "str") (.base (.int i)) (kit_ty (b := "str") (r := false) (by decide +kernel)) (h2 fun l e => by cases e)
  case str l => exact k_isiSS (h1 l rfl)
  case lst h => exact k_isi (cls_ty "str") (.base (.lst h)) (kit_ty (b := "str") (r := false) (by decide +kernel)) (h2 fun l e => by cases e)
  case tup h => exact k_isi (cls_ty "str") (.base (.tup h)) (kit_ty (b := "str") (r := false) (by decide +kernel)) (h2 fun l e => by cases e)
/-- the parts between slashes -/
theorem words_gen (d : List Nat) : (47 ∉ d ∧ TL.spl [47] 0 [] d = [d]) ∨ (∃ a b, 47 ∉ a ∧ 47 ∉ b ∧ d = a ++ 47 :: b ∧ TL.spl [47] 0 [] d = [a, b]) ∨ (3 ≤ (TL.spl [47] 0 [] d).length ∧ ∀ a b, 47 ∉ a → 47 ∉ b → d ≠ a ++ 47 :: b ∧ d ≠ a) := by
  have two : ∀ a b : List Nat, 47 ∉ a → TL.spl [47] 0 [] (a ++ 47 :: b) = a :: TL.spl [47] 0 [] b := fun a b h => TL.spl_part1 (S := []) (acc := []) h
  have one : ∀ a : List Nat, 47 ∉ a → TL.spl [47] 0 [] a = [a] := fun a h => TL.spl_last1 (S := []) (acc := []) h
  have pos : ∀ b : List Nat, 1 ≤ (TL.spl [47] 0 [] b).length := fun b => by
    by_cases h : 47 ∈ b
    · obtain ⟨u, v, rfl, hu⟩ := List.eq_append_cons_of_mem h
      rw [two u v hu]; simp
    · rw [one b h]; simp
  by_cases h : 47 ∈ d
  · obtain ⟨a, b, rfl, ha⟩ := List.eq_append_cons_of_mem h
    by_cases hb : 47 ∈ b
    · right; right
      obtain ⟨u, v, rfl, hu⟩ := List.eq_append_cons_of_mem hb
      have L : 3 ≤ (TL.spl [47] 0 [] (a ++ 47 :: (u ++ 47 :: v))).length := by
        rw [two a _ ha, two u v hu]
        have := pos v
        simp only [List.length_cons]; omega
      refine ⟨L, fun a' b' h1 h2 => ⟨fun e => ?_, fun e => ?_⟩⟩
      · rw [e, two a' b' h1, one b' h2] at L
        simp at L
      · rw [e, one a' h1] at L
        simp at L
    · right; left
      exact ⟨a, b, ha, hb, rfl, by rw [two a b ha, one b hb]⟩
  · exact Or.inl ⟨h, one d h⟩
/-- a number's text without its sign -/
theorem body_txt {t p : Int} : (if (txtL t p).head? = some 45 then (txtL t p).drop 1 else txtL t p) = if p = 0 then TL.numL t.natAbs else TL.numL t.natAbs ++ 47 :: TL.numL (2 ^ p.toNat) := by
  have hn : (TL.numL t.natAbs).head? ≠ some 45 := fun e => TL.numL_free (n := t.natAbs) (s := 45) (Or.inl (by decide)) (List.mem_of_head? e)
  unfold txtL intL
  by_cases hp : p = 0
  · rw [if_pos hp, if_pos hp]
    by_cases ht : t < 0
    · rw [if_pos ht]; rfl
    · rw [if_neg ht, if_neg hn]
  · rw [if_neg hp, if_neg hp]
    by_cases ht : t < 0
    · rw [if_pos ht]; rfl
    · rw [if_neg ht, if_neg]
      intro e
      apply hn
      cases hq : TL.numL t.natAbs with
      | nil => exact absurd hq (TL.numL_ne _)
      | cons c r => rw [hq] at e; exact e
theorem num47 (n : Nat) : 47 ∉ TL.numL n := TL.numL_free (Or.inl (by decide))
end Mine
namespace Mine
open PySem PySem.Spec PyProof.Rows L2
open Evl (Ex)
/-! a part that is read under a condition on the error -/
def tWhen (p : Prop) (t : TS) : TS := fun D σ H => p ∧ t D σ H
theorem pss_when {X : Cx} {b : List Stmt} {p : Prop} {t : TS} (h : p → PSs X b t) : PSs X b (tWhen p t) :=
  ⟨fun pins s σ H D I q => (h q.1).run pins s σ H D I q.2⟩
theorem zc_at {cls c : Value} {d : Option Addr} {oe : Obj} (h : cls = c ∧ d = none) (z : Zc cls d oe) : Zc c none oe := by
  obtain ⟨rfl, rfl⟩ := h
  exact z
/-- try: body except c as (slot i): suite -/
def tTryAs (K : PySem.W.Frag) (c : Value) (i : Nat) (tb : WX → TS) (ts : Addr → Value → Option Addr → TS) : TS := fun D σ H => tb (wAs K c i ts (fun _ _ _ _ => False) D) D σ H
theorem k_isE {K : PySem.W.Frag} {D a : Addr} {c : V} {cv : Value} {b : Bool} {H : Hp} {Q : VK} (h : PySem.W.kitOne K (.ref D) cv = some b) (hc : ∀ u, RelV c u → u = cv) (q : Q (.bl b) H) : rIsE K D a [.ref a, c] H Q :=
  ⟨c, cv, b, rfl, hc, h, q⟩
theorem rel_ref {c : Addr} : ∀ u, RelV (.ref c) u → u = .ref c := fun _ h => h
theorem rel_ty {n : String} : ∀ u, RelV (.ty n) u → u = .type n := fun _ h => h
/-- C(e, ..) where its __init__ may raise, at the slots -/
def tMakeS (C : Addr) (sp : Sp) (dvs : List V) (E : L2.St → XK) (t : TA) : TE := fun σ H Q => t σ H fun vs H1 => ∀ x dx, H1 x = none → H1 dx = none → dx ≠ x → sp (.ref x :: (vs ++ dvs)) (upd (upd H1 dx (.own x)) x (.ins C dx [])) (fun v H2 => v = .non ∧ Q (.ref x) H2) (E σ)
section
variable {X : Cx} {CX : CXT} {k : Nat} {f C : Addr} {fd : FuncData} {ps : List Str} {sp : Sp} {E : L2.St → XK} {dvs : List V} {ds : List Value} {x : Str} {p pos : Pos} {e : Expr} {es : List Expr} {t : TA}
theorem pe_makeS (M : Mk X.K C f) (F : FnOk X.prog X.w X.K X.mg X.base CX k f fd ps sp) (hr : Room (k + 1) X.A) (hg : Gl X x) (hm : X.mg x = some (.ref C)) (hb : Binds X.K fd ps ds) (hd : Vals dvs ds) (hx : ∀ σ, PassesAt CX X σ (E σ))
    (ha : PA X (e :: es) t) (hdb : (x == ("__debug__" : Str)) = false := by decide) (he : starEach (e :: es) X.env = (false, eval e X.env) :: starEach es X.env := by rfl) (hpl : (backTo pos (starEach es X.env)).any (·.1) = false := by rfl) :
    PE X (.Call (.Name x p) (e :: es) [] pos) (tMakeS C sp dvs E t) := by
  constructor
  intro pins s σ H Q I h
  refine wpAny_Call_Name_kw (ld_glob I hg hm ?_ hdb)
  refine PySem.W.callWith_K (h₀ := X.base) I.ok.mod.kin M.kp ?_ he hpl
  refine thn (ha.run pos pins s σ H _ I h) ?_
  rintro us s1 ⟨vs, H1, I1, r, q⟩
  refine ⟨I1.kIn, ?_⟩
  have q1 := q (s1.heap.objs.size + 1) s1.heap.objs.size (I1.hok.fresh (Nat.le_succ _)) (I1.hok.fresh (Nat.le_refl _)) (Nat.ne_of_lt (Nat.lt_succ_self _))
  have J := Inv.made (C := C) I1
  have rr : Vals (V.ref (s1.heap.objs.size + 1) :: (vs ++ dvs)) (Value.ref (s1.heap.objs.size + 1) :: (us ++ ds)) := .cons rfl (r.append hd)
  have hl : (Value.ref (s1.heap.objs.size + 1) :: us ++ ds).length = ps.length := by
    rw [← F.len _ _ _ _ q1]; exact rr.length.symm
  refine wpAny_call (make_map (f := f) I1.kIn M.makes M.init (beq_iff_eq.mp M.fn) (codeAny_mono (F.run _ X.stack _ _ ⟨Value.ref (s1.heap.objs.size + 1) :: us, []⟩ (Value.ref (s1.heap.objs.size + 1) :: (us ++ ds)) _ _ (E σ) (hr.make C us [])
    (J.env0.make C us []) (hb _ (Value.ref (s1.heap.objs.size + 1) :: us) J.kIn hl) rr q1) ?_))
  rintro (er | fl) s' hq
  · exact hx σ pins _ _ er s' J hq
  · cases fl with
    | ret u =>
      obtain ⟨v, H', I3, rv, ev, q3⟩ := J.after hq
      subst ev
      exact ⟨rv, ⟨V.ref (s1.heap.objs.size + 1), H', I3, rfl, q3⟩⟩
    | next => exact False.elim hq
    | brk => exact False.elim hq
    | cont => exact False.elim hq
end
open PySem.W (Frag)
def excCB (K : Frag) (C : Str) : Bool :=
  He.eqO (PySem.W.findIn K (.ref (He.ga K C)) "__getattribute__") (some (some (.builtin "BaseException.__getattribute__"))) &&
  (decide (PySem.W.findIn K (.ref (He.ga K C)) "__getattr__" = some none) &&
  (decide (PySem.W.subIn K (.ref (He.ga K C)) (.type "BaseException") = some true) &&
  (decide (PySem.W.hasDictIn K (He.ga K C) = true) &&
  (He.eqO (PySem.W.findIn K (.ref (He.ga K C)) "__class__") (some (some (.builtin "object.__class__"))) &&
  (He.eqO (PySem.W.specialIn K (.builtin "object.__class__") "__get__") (some (some (.builtin "getset_descriptor.__get__"))) &&
  (decide (PySem.W.takesIn K (.builtin "object.__class__") = some true) && decide (PySem.W.mroIn K (He.ga K C) (.type "object") = some true)))))))
theorem excC_ok {K : Frag} {C : Str} (h : excCB K C = true) : ExcC K (He.ga K C) := by
  unfold excCB at h
  rw [Bool.and_eq_true, Bool.and_eq_true, Bool.and_eq_true, Bool.and_eq_true, Bool.and_eq_true, Bool.and_eq_true, Bool.and_eq_true] at h
  obtain ⟨h1, h2, h3, h4, h5, h6, h7, h8⟩ := h
  exact ⟨He.eqO_ok h1, of_decide_eq_true h2, of_decide_eq_true h3, of_decide_eq_true h4, He.eqO_ok h5, He.eqO_ok h6, of_decide_eq_true h7, of_decide_eq_true h8⟩
/-- what the errors' classes say of BadValue -/
structure FBadValue (K : Frag) : Prop where
  ex : PySem.W.exmOne K (.ref (He.ga K "BadValue")) (.ref (He.ga K "PlayError")) = some true
  k1 : PySem.W.kitOne K (.ref (He.ga K "BadValue")) (.ref (He.ga K "BadText")) = some false
  k2 : PySem.W.kitOne K (.ref (He.ga K "BadValue")) (.ref (He.ga K "NoMove")) = some false
  k3 : PySem.W.kitOne K (.ref (He.ga K "BadValue")) (.ref (He.ga K "Unknown")) = some false
  k4 : PySem.W.kitOne K (.ref (He.ga K "BadValue")) (.ref (He.ga K "BadValue")) = some true
  k5 : PySem.W.kitOne K (.ref (He.ga K "BadValue")) (.type "ValueError") = some true
end Mine
namespace Mine
open PySem PySem.Spec PyProof.Rows L2
open Evl (Ex)
section
variable {σ : L2.St} {H : Hp} {Q : VK} {K : PySem.W.Frag} {D : Ends}
theorem k_tryAs {c : Value} {i : Nat} {tb : WX → TS} {ts : Addr → Value → Option Addr → TS} (q : tb (wAs K c i ts (fun _ _ _ _ => False) D) D σ H) : tTryAs K c i tb ts D σ H := q
theorem k_makeS {C : Addr} {sp : Sp} {dvs : List V} {E : L2.St → XK} {t : TA} (q : t σ H fun vs H1 => ∀ x dx, H1 x = none → H1 dx = none → dx ≠ x → sp (.ref x :: (vs ++ dvs)) (upd (upd H1 dx (.own x)) x (.ins C dx [])) (fun v H2 => v = .non ∧ Q (.ref x) H2) (E σ)) : tMakeS C sp dvs E t σ H Q := q
theorem k_callSD {sp : Sp} {dvs : List V} {E : L2.St → XK} {t : TA} (q : t σ H fun vs H1 => sp (vs ++ dvs) H1 Q (E σ)) : tCallSD sp dvs E t σ H Q := q
theorem k_when {p : Prop} {t : TS} (h : p) (q : t D σ H) : tWhen p t D σ H := ⟨h, q⟩
/-- the suite is reached -/
theorem k_wAs {cls : Value} {c : Value} {i : Nat} {d : Option Addr} {ts : Addr → Value → Option Addr → TS} {Wout : WX} (e : PySem.W.exmOne K cls c = some true)
    (q : ∀ a, H a = none → ts a cls d { nx := fun σ' H' => D.nx (σ'.set i none) H', rt := D.rt, bk := fun σ' H' => D.bk (σ'.set i none) H', ct := fun σ' H' => D.ct (σ'.set i none) H' } (σ.set i (some (.ref a))) H) : WE (wAs K c i ts Wout D) σ cls d H :=
  ⟨true, e, fun _ => q, fun z => Bool.noConfusion z⟩
theorem TyB.ex {H H' : Hp} {x : V} {T : String} (t : TyB K H x T) (e : Ex H H') : TyB K H' x T := by
  cases t
  case lst h => exact .lst (Evl.ex_l e h)
  case tup h => exact .tup (Evl.ex_t e h)
  case dK h => exact .dK (e _ _ h)
  all_goals constructor
end
/-! keywords -/
def gKA {α : Type} (us ds zs : List α) : List α := us ++ (zs ++ ds)
def gKB {α : Type} (us _ zs : List α) : List α := us ++ zs
def gKC {α : Type} (us _ zs : List α) : List α := us ++ zs.reverse
theorem vals_rev {vs : List V} {us : List Value} (r : Vals vs us) : Vals vs.reverse us.reverse := by
  induction r with
  | nil => exact .nil
  | cons h _ ih => rw [List.reverse_cons, List.reverse_cons]; exact ih.append (.cons h .nil)
theorem gKA_rel {vs ds zs : List V} {us its ws : List Value} (r : Vals vs us) (rd : Vals ds its) (rz : Vals zs ws) : Vals (gKA vs ds zs) (gKA us its ws) := r.append (rz.append rd)
theorem gKB_rel {vs ds zs : List V} {us its ws : List Value} (r : Vals vs us) (_ : Vals ds its) (rz : Vals zs ws) : Vals (gKB vs ds zs) (gKB us its ws) := r.append rz
theorem gKC_rel {vs ds zs : List V} {us its ws : List Value} (r : Vals vs us) (_ : Vals ds its) (rz : Vals zs ws) : Vals (gKC vs ds zs) (gKC us its ws) := r.append (vals_rev rz)
end Mine
namespace MineL
open PySem PySem.Spec PyProof.Rows L2 Mine
open Evl (Ex)
/-- what a comprehension asks behind its source -/
def lcR (g : TG) (tt : TT) (te : TE) (vs : List Nat) (σ : L2.St) (Q : VK) : It → Hp → Prop := fun J H1 => ∀ D, H1 D = none → ∃ W : Nat → Nat → Hp → Prop, (∃ m, W 0 m (upd H1 D (.lst []))) ∧ ∀ i m H, W i m H →
  (J.stop i H ∧ Q (.ref D) H) ∨ (J.go i H ∧ ∃ Nx : Hp → Prop, (∀ H', Nx H' → ∃ m', m' < m ∧ W (i + 1) m' H') ∧ ∀ x H', J.yld i H x H' → g x (wipe σ vs) H' fun σ2 H2 => wipe σ2 vs = wipe σ vs ∧ tt σ2 H2 fun b H3 =>
    if b = true then te σ2 H3 fun y H4 => ∃ acc, H4 D = some (.lst acc) ∧ acc.length < sizeLine ∧ Nx (upd H4 D (.lst (acc ++ [y]))) else Nx H3)
/-- one turn gives the item o (none: it is left out) -/
def turnR (g : TG) (tt : TT) (te : TE) (vs : List Nat) (σ : L2.St) (x : V) (o : Option V) (H1 : Hp) : Prop := ∀ H', Ex H1 H' → ∀ R : Option V → Hp → Prop, (∀ H'', Ex H' H'' → R o H'') →
  g x (wipe σ vs) H' fun σ2 H2 => wipe σ2 vs = wipe σ vs ∧ tt σ2 H2 fun b H3 => if b = true then te σ2 H3 fun y H4 => R (some y) H4 else R none H3
section
variable {g : TG} {tt : TT} {te : TE} {vs : List Nat} {σ : L2.St} {Q : VK} {H1 : Hp} {K : PySem.W.Frag} {wi : TI}
theorem k_lc {H : Hp} (q : wi σ H (lcR g tt te vs σ Q)) : tLc wi g tt te vs σ H Q := q
theorem turn_in {x : V} {o : Option V} {D : Addr} {acc : List V} {H : Hp} {Nx : Hp → Prop} (t : turnR g tt te vs σ x o H1) (e : Ex H1 H) (hD : H1 D = none) (a : H D = some (.lst acc)) (len : acc.length < sizeLine)
    (nx : ∀ H', Ex H1 H' → H' D = some (.lst (acc ++ o.toList)) → Nx H') :
    g x (wipe σ vs) H fun σ2 H2 => wipe σ2 vs = wipe σ vs ∧ tt σ2 H2 fun b H3 => if b = true then te σ2 H3 fun y H4 => ∃ acc, H4 D = some (.lst acc) ∧ acc.length < sizeLine ∧ Nx (upd H4 D (.lst (acc ++ [y]))) else Nx H3 := by
  refine t H e (fun o' H4 => match o' with | some y => ∃ acc, H4 D = some (.lst acc) ∧ acc.length < sizeLine ∧ Nx (upd H4 D (.lst (acc ++ [y]))) | none => Nx H4) fun H'' e2 => ?_
  cases o with
  | none => exact nx H'' (e.trans e2) (by rw [e2 _ _ a]; simp)
  | some y => exact ⟨acc, e2 _ _ a, len, nx _ (Evl.Ex.mut (e.trans e2) hD) upd_same⟩
theorem lcR_rng {n : Nat} (f : Nat → Option V) (len : n < sizeLine) (t : ∀ i, i < n → turnR g tt te vs σ (.int (i : Int)) (f i) H1)
    (q : ∀ D H', H1 D = none → Ex H1 H' → H' D = some (.lst ((List.range n).filterMap f)) → Q (.ref D) H') : lcR g tt te vs σ Q (Itr 0 n) H1 := by
  intro D hD
  refine lc_range (lo := 0) (n := n) (fun i H => Ex H1 H ∧ H D = some (.lst ((List.range i).filterMap f))) ⟨Evl.Ex.new hD, upd_same⟩ (fun i H hi p => ?_) (fun H p => q D H hD p.1 p.2)
  have e0 : (0 : Int) + (i : Int) = (i : Int) := Int.zero_add _
  rw [e0]
  refine turn_in (t i hi) p.1 hD p.2 ?_ fun H' e h' => ⟨e, ?_⟩
  · refine Nat.lt_of_le_of_lt (Nat.le_trans (List.length_filterMap_le _ _) ?_) (Nat.lt_trans hi len)
    rw [List.length_range]; exact Nat.le_refl i
  · rw [h', List.range_succ, List.filterMap_append]
    cases h : f i <;> simp [h]
theorem turn_flt {i : Nat} {x : V} {b : Bool} (h : ∀ H', Ex H1 H' → ∀ R : Bool → Hp → Prop, R b H' → tt ((wipe σ [i]).set i (some x)) H' R) (w : wipe ((wipe σ [i]).set i (some x)) [i] = wipe σ [i] := by rfl) (v : ((wipe σ [i]).set i (some x))[i]? = some (some x) := by rfl) :
    turnR (gName i) tt (tVar i) [i] σ x (if b = true then some x else none) H1 :=
  fun H' e R r => ⟨w, h H' e _ (by
    cases b
    · exact r H' (Evl.Ex.refl _)
    · exact ⟨x, v, r H' (Evl.Ex.refl _)⟩)⟩
/-- the members of a range that a test keeps -/
def kept (n : Nat) (p : Nat → Bool) : List Int := ((List.range n).filter p).map fun i : Nat => (i : Int)
theorem kept_map (n : Nat) (p : Nat → Bool) : (List.range n).filterMap (fun i => if p i = true then some (V.int (i : Int)) else none) = (kept n p).map V.int := by
  unfold kept
  induction (List.range n) with
  | nil => rfl
  | cons x xs ih =>
    rw [List.filterMap_cons, List.filter_cons]
    by_cases h : p x = true
    · rw [if_pos h, if_pos h, List.map_cons, List.map_cons, ← ih]
    · rw [if_neg h, if_neg h, ← ih]
theorem mem_kept {n : Nat} {p : Nat → Bool} {x : Int} : x ∈ kept n p ↔ ∃ i : Nat, x = i ∧ i < n ∧ p i = true := by
  unfold kept
  rw [List.mem_map]
  constructor
  · rintro ⟨i, h, rfl⟩
    rw [List.mem_filter, List.mem_range] at h
    exact ⟨i, rfl, h.1, h.2⟩
  · rintro ⟨i, rfl, h1, h2⟩
    exact ⟨i, by rw [List.mem_filter, List.mem_range]; exact ⟨h1, h2⟩, rfl⟩
end
end MineL
namespace Mine
open PySem PySem.Spec PyProof.Rows L2
open Evl (Ex)

local macro_rules | `(tactic| walk_at "mcond") => `(tactic| first
  | (show (0 : Int) < _; omega)
  | (show (0 : Int) ≤ _; omega)
  | (show CDiv _ _; exact ⟨by omega, by omega⟩)
  | (show CPow _ _; exact ⟨by omega, by omega, by omega⟩)
  | (show CMul _ _; exact Or.inl ⟨by omega, by omega⟩)
  | (show CMul _ _; exact Or.inr ⟨by omega, by omega⟩)
  | assumption)
local macro_rules | `(tactic| walk_at "mtr") => `(tactic| first
  | assumption
  | (refine tr_step (H := ?_) ?_ ?_; rotate_left; (focus assumption); walk_at "mtr"))
local macro_rules | `(tactic| walk_at "msq") => `(tactic| first
  | assumption
  | (refine k_sq ?_; walk_at "mtr")
  | (refine k_st ?_; walk_at "mtr")
  | exact Evl.ex_l (by first | assumption | solve_by_elim) (by assumption)
  | exact Evl.ex_t (by first | assumption | solve_by_elim) (by assumption))
local macro_rules | `(tactic| walk_at "mins") => `(tactic| walk_at "mtr")
local macro_rules | `(tactic| walk_at "mcls") => `(tactic| first | assumption | (apply FDyadic.cl; assumption))
local macro_rules | `(tactic| walk_at "mna") => `(tactic| first | assumption | (apply FDyadic.nt; assumption) | (apply FDyadic.np; assumption))
local macro_rules | `(tactic| walk_at "mlk") => `(tactic| first | assumption | exact dfs_top _ _ | exact dfs_power _ _)
local macro_rules | `(tactic| walk_at "mdy") => `(tactic| first
  | assumption
  | (refine dy_tr (H := ?_) ?_ ?_; rotate_left; (focus assumption); walk_at "mdy"))
local macro_rules | `(tactic| walk_at "mst") => `(tactic| first
  | with_reducible refine k_seq ?_
  | with_reducible refine k_asg ?_
  | ((with_reducible refine k_fldv (v := ?_) (fs := ?_) (C := ?_) (dx := ?_) (a := ?_) ?_ ?_ ?_ ?_ ?_ ?_); rotate_left 5; (focus exact rfl); (focus walk_at "mins"); (focus walk_at "mcls"); (focus walk_at "mna"); (focus walk_at "mlk"))
  | with_reducible refine k_name ?_
  | ((with_reducible refine k_var (v := ?_) ?_ ?_); rotate_left; (focus exact rfl))
  | with_reducible refine k_c ?_
  | with_reducible refine k_op ?_
  | with_reducible refine k_un ?_
  | with_reducible refine k_I0 ?_
  | with_reducible refine k_pow12 ?_
  | with_reducible refine k_pow18 ?_
  | with_reducible refine k_pow11 ?_
  | with_reducible refine k_pow9 ?_
  | with_reducible refine k_pow30 ?_
  | ((with_reducible refine k_shl1 ?_ ?_); (focus (constructor <;> omega)); intro _ _ _)
  | ((with_reducible refine k_minL ?_); intro _ _ _ _)
  | ((with_reducible refine k_maxL ?_); intro _ _ _ _)
  | ((with_reducible refine k_I ?_ ?_); (focus walk_at "mcond"))
  | with_reducible refine k_U ?_
  | with_reducible refine k_eqI ?_
  | with_reducible refine k_eqB ?_
  | with_reducible refine k_neI ?_
  | with_reducible refine k_isTy ?_
  | with_reducible refine k_isiII ?_
  | with_reducible refine k_isiIB ?_
  | with_reducible refine k_isiBB ?_
  | with_reducible refine k_isN ?_
  | with_reducible refine k_notN ?_
  | with_reducible refine k_chain ?_
  | with_reducible refine k_bl ?_
  | with_reducible refine k_test ?_
  | with_reducible refine k_B ?_
  | with_reducible refine k_and ?_
  | with_reducible refine k_or ?_
  | with_reducible refine k_not ?_
  | with_reducible refine k_if ?_
  | with_reducible refine k_ifS ?_
  | with_reducible refine k_andV ?_
  | with_reducible refine k_orV ?_
  | with_reducible refine k_notV ?_
  | with_reducible refine k_tup ?_
  | with_reducible refine k_lst ?_
  | with_reducible refine k_cb ?_
  | with_reducible refine k_nil ?_
  | with_reducible refine k_cons ?_
  | with_reducible refine k_rInt ?_
  | with_reducible refine k_rAbs ?_
  | with_reducible refine k_rMax ?_
  | with_reducible refine k_rMin ?_
  | ((with_reducible refine k_rLenL (ys := ?_) ?_ ?_); rotate_left; (focus walk_at "msq"))
  | ((with_reducible refine k_rLenT (ys := ?_) ?_ ?_); rotate_left; (focus walk_at "msq"))
  | with_reducible refine k_bm ?_
  | with_reducible refine k_bm0 ?_
  | ((with_reducible refine k_tyl (xs := ?_) ?_ ?_); rotate_left; (focus walk_at "msq"))
  | ((with_reducible refine k_rApp (xs := ?_) ?_ ?_ ?_); rotate_left; (focus walk_at "mtr"))
  | ((with_reducible refine dy_meth (t := ?_) (p := ?_) ?_ ?_ ?_ ?_); rotate_left 2; (focus walk_at "mdy"); (focus decide +kernel); (focus decide +kernel))
  | ((with_reducible refine dy_prop (t := ?_) (p := ?_) ?_ ?_); rotate_left 2; (focus walk_at "mdy"))
  | ((with_reducible refine dy_isC (t := ?_) (p := ?_) ?_ ?_); rotate_left 2; (focus walk_at "mdy"))
  | with_reducible refine k_call ?_
  | with_reducible refine k_meth ?_
  | with_reducible refine k_make ?_
  | with_reducible refine k_prop ?_
  | with_reducible refine k_ret ?_
  | with_reducible refine k_drop ?_
  | with_reducible refine k_next ?_
  | with_reducible refine k_for ?_
  | with_reducible refine k_rng1 ?_
  | with_reducible refine k_rng2 ?_
  | with_reducible refine k_ilist ?_
  | with_reducible refine k_itup ?_
  | with_reducible refine k_iteT ?_
  | with_reducible refine k_iteNT ?_
  | with_reducible refine k_iteNF ?_
  | with_reducible refine k_raise ?_
  | with_reducible refine k_iteF ?_
  | ((with_reducible refine k_ixT (xs := ?_) (v := ?_) ?_ ?_ ?_); rotate_left 2; (focus walk_at "msq"); (focus exact rfl))
  | with_reducible refine k_gnil ?_
  | with_reducible refine k_gcons ?_)
def sp_law_digits (K : PySem.W.Frag) : Sp := spR (fun vs H => ∃ (c n : Int), vs = [.int c, .int n] ∧ 0 ≤ n ∧ n ≤ 1000)
  (fun vs H v H' => ∃ (c n : Int) (p : Addr) (ds : List Int), vs = [.int c, .int n] ∧ v = .ref p ∧ H p = none ∧ Ex H H' ∧ H' p = some (.lst (ds.map V.int)) ∧ (ds.length : Int) = n ∧ ∀ d ∈ ds, 0 ≤ d ∧ d < 60)
abbrev N_law_digits : List Str := ["cell", "count", "row", "k", "seed"]
def t_law_digits (K : PySem.W.Frag) (E : XK) : TS := (tSeq (tAsg (tLst tNil) (gName 2)) (tSeq (tIfS (tTest (tOp rGeI (tVar 0) (tOp rPowI (tC (.int 10)) (tC (.int 18))))) (tSeq (tFor (iRng1 (tCons (tVar 1) tNil)) (gName 3) (tSeq (tDrop (tBM K "list" rAppend (tVar 2) (tCons (tOp rModI (tCB rIntI (tCons (tVar 0) tNil)) (tC (.int 60))) tNil))) (tAsg (tOp rDivI (tVar 0) (tC (.int 60))) (gName 0)))) (tRet (tVar 2))) tNext) (tSeq (tAsg (tOp rModI (tCB rIntI (tCons (tOp rAddI (tOp rMulI (tVar 0) (tC (.int 48271))) (tC (.int 11))) tNil)) (tC (.int 2147483647))) (gName 4)) (tSeq (tFor (iRng1 (tCons (tVar 1) tNil)) (gName 3) (tSeq (tAsg (tOp rModI (tCB rIntI (tCons (tOp rAddI (tOp rAddI (tOp rMulI (tVar 4) (tC (.int 69621))) (tOp rMulI (tC (.int 7)) (tVar 3))) (tC (.int 1))) tNil)) (tC (.int 2147483629))) (gName 4)) (tDrop (tBM K "list" rAppend (tVar 2) (tCons (tOp rModI (tCB rIntI (tCons (tOp rDivI (tVar 4) (tC (.int 64))) tNil)) (tC (.int 60))) tNil))))) (tRet (tVar 2))))))
theorem len_law_digits {K : PySem.W.Frag} {vs : List V} {H : Hp} {Q : VK} {E : XK} (h : sp_law_digits K vs H Q E) : vs.length = 2 := by
  obtain ⟨⟨_, _, rfl, _⟩, _⟩ := h; rfl
theorem dg_more {ds : List Int} {z : Int} (h : ∀ d ∈ ds, 0 ≤ d ∧ d < 60) (hz : 0 ≤ z ∧ z < 60) : ∀ d ∈ ds ++ [z], 0 ≤ d ∧ d < 60 := by
  intro d hd
  rcases List.mem_append.mp hd with m | m
  · exact h d m
  · rw [List.mem_singleton.mp m]; exact hz
theorem map_more (ds : List Int) (z : Int) : ds.map V.int ++ [V.int z] = (ds ++ [z]).map V.int := by simp
theorem pure_law_digits {K : PySem.W.Frag} (vs : List V) (H : Hp) (Q : VK) (E : XK) (h : sp_law_digits K vs H Q E) : t_law_digits K E { nx := fun _ H' => Q .non H', rt := Q } (start N_law_digits vs) H := by
  obtain ⟨⟨c, n, rfl, h0, h1⟩, q⟩ := h
  unfold t_law_digits
  repeat walk_at "mst"
  refine ⟨by show 0 ≤ sizeLine; decide, fun p hp => ?_⟩
  repeat walk_at "mst"
  refine k_iteD (fun hc => ?_) (fun hc => ?_)
  · repeat walk_at "mst"
    refine ⟨_, rfl, by omega, by omega, forK_range (fun i σ H' => Ex H H' ∧ ∃ (ds : List Int) (m : Int) (v w : Option V), H' p = some (.lst (ds.map V.int)) ∧ ds.length = i ∧ (∀ d ∈ ds, 0 ≤ d ∧ d < 60) ∧ σ = [some (.int m), some (.int n), some (.ref p), v, w]) ?_ ?_ ?_⟩
    · exact ⟨Evl.Ex.new hp, [], c, none, none, upd_same, rfl, by simp, rfl⟩
    · rintro i σ H' hi ⟨e, ds, m, v, w, hl, hn, hd, rfl⟩
      repeat walk_at "mst"
      · exact k_sizeL (by omega)
      repeat walk_at "mst"
      exact ⟨Evl.Ex.mut e hp, ds ++ [m % 60], _, _, _, by rw [upd_same, map_more], by simp [hn], dg_more hd ⟨by omega, by omega⟩, rfl⟩
    · rintro σ H' ⟨e, ds, m, v, w, hl, hn, hd, rfl⟩
      repeat walk_at "mst"
      exact q _ _ ⟨c, n, p, ds, rfl, rfl, hp, e, hl, by omega, hd⟩
  · repeat walk_at "mst"
    refine ⟨_, rfl, by omega, by omega, forK_range (fun i σ H' => Ex H H' ∧ ∃ (ds : List Int) (m : Int) (v : Option V), H' p = some (.lst (ds.map V.int)) ∧ ds.length = i ∧ (∀ d ∈ ds, 0 ≤ d ∧ d < 60) ∧ σ = [some (.int c), some (.int n), some (.ref p), v, some (.int m)]) ?_ ?_ ?_⟩
    · exact ⟨Evl.Ex.new hp, [], _, _, upd_same, rfl, by simp, rfl⟩
    · rintro i σ H' hi ⟨e, ds, m, v, hl, hn, hd, rfl⟩
      repeat walk_at "mst"
      · exact k_sizeL (by omega)
      repeat walk_at "mst"
      exact ⟨Evl.Ex.mut e hp, ds ++ [_], _, _, by rw [upd_same, map_more], by simp [hn], dg_more hd ⟨by omega, by omega⟩, rfl⟩
    · rintro σ H' ⟨e, ds, m, v, hl, hn, hd, rfl⟩
      repeat walk_at "mst"
      exact q _ _ ⟨c, n, p, ds, rfl, rfl, hp, e, hl, by omega, hd⟩
theorem use_digits {K : PySem.W.Frag} {H : Hp} {Q : VK} {E : XK} {c n : Int} (h : 0 ≤ n ∧ n ≤ 1000) (q : ∀ (p : Addr) (ds : List Int) (H' : Hp), H p = none → Ex H H' → H' p = some (.lst (ds.map V.int)) → (ds.length : Int) = n → (∀ d ∈ ds, 0 ≤ d ∧ d < 60) → Q (.ref p) H') : sp_law_digits K ([.int c, .int n] ++ []) H Q E := by
  refine ⟨⟨c, n, rfl, h.1, h.2⟩, ?_⟩
  rintro v H' ⟨c', n', p, ds, e, rfl, h1, h2, h3, h4, h5⟩
  cases e
  exact q p ds H' h1 h2 h3 h4 h5
def sp_law_pair (K : PySem.W.Frag) : Sp := spR (fun vs H => ∃ c s : Int, vs = [.int c, .int s])
  (fun vs H v H' => ∃ (p : Addr) (a b : Int), v = .ref p ∧ H p = none ∧ Ex H H' ∧ H' p = some (.tup [.int a, .int b]) ∧ (-1000000000000 ≤ a ∧ a ≤ 1000000000000) ∧ 0 ≤ b ∧ b ≤ 40)
abbrev N_law_pair : List Str := ["cell", "shape", "digits", "power", "most", "top", "size"]
def t_law_pair (K : PySem.W.Frag) (E : XK) : TS := (tSeq (tAsg (tCall (sp_law_digits K) [] E0 (tCons (tVar 1) (tCons (tC (.int 4)) tNil))) (gName 2)) (tSeq (tAsg (tOp rModI (tCB rIntI (tCons (tOp (rIxL K) (tVar 2) (tC (.int 0))) tNil)) (tC (.int 41))) (gName 3)) (tSeq (tAsg (tCB rMin2 (tCons (tOp rPowI (tC (.int 10)) (tC (.int 12))) (tCons (tOp rShlI (tC (.int 1)) (tOp rModI (tCB rIntI (tCons (tOp (rIxL K) (tVar 2) (tC (.int 1))) tNil)) (tC (.int 41)))) tNil))) (gName 4)) (tSeq (tAsg (tOp rSubI (tOp rModI (tCB rIntI (tCons (tVar 0) tNil)) (tOp rAddI (tOp rMulI (tC (.int 2)) (tVar 4)) (tC (.int 1)))) (tVar 4)) (gName 5)) (Evl.tCut (tIfS (tTest (tOp rEq (tOp rModI (tCB rIntI (tCons (tOp (rIxL K) (tVar 2) (tC (.int 2))) tNil)) (tC (.int 4))) (tC (.int 1)))) (tSeq (tAsg (tOp rShlI (tOp rShrI (tCB rAbsI (tCons (tVar 5) tNil)) (tOp rModI (tCB rIntI (tCons (tOp (rIxL K) (tVar 2) (tC (.int 3))) tNil)) (tC (.int 40)))) (tOp rModI (tCB rIntI (tCons (tOp (rIxL K) (tVar 2) (tC (.int 3))) tNil)) (tC (.int 40)))) (gName 6)) (tAsg (tIf (tTest (tOp rGtI (tVar 5) (tC (.int 0)))) (tVar 6) (tUn rNegI (tVar 6))) (gName 5))) tNext) (Evl.tCut (tIfS (tTest (tOp rEq (tOp rModI (tCB rIntI (tCons (tOp (rIxL K) (tVar 2) (tC (.int 2))) tNil)) (tC (.int 8))) (tC (.int 2)))) (tAsg (tOp (rIxL K) (tLst (tCons (tC (.int 0)) (tCons (tC (.int 1)) (tCons (tUn rNegI (tC (.int 1))) (tCons (tOp rPowI (tC (.int 10)) (tC (.int 12))) (tCons (tUn rNegI (tOp rPowI (tC (.int 10)) (tC (.int 12)))) (tCons (tOp rSubI (tOp rPowI (tC (.int 10)) (tC (.int 12))) (tC (.int 1))) (tCons (tOp rSubI (tC (.int 1)) (tOp rPowI (tC (.int 10)) (tC (.int 12)))) tNil)))))))) (tOp rModI (tCB rIntI (tCons (tOp (rIxL K) (tVar 2) (tC (.int 3))) tNil)) (tC (.int 7)))) (gName 5)) tNext) (tRet (tTup (tCons (tVar 5) (tCons (tVar 3) tNil))))))))))
theorem len_law_pair {K : PySem.W.Frag} {vs : List V} {H : Hp} {Q : VK} {E : XK} (h : sp_law_pair K vs H Q E) : vs.length = 2 := by
  obtain ⟨⟨_, _, rfl⟩, _⟩ := h; rfl
/-- an item of a list of digits -/
theorem dg_at {ds : List Int} (hd : ∀ d ∈ ds, 0 ≤ d ∧ d < 60) {k : Nat} (hk : k < ds.length) : ∃ z, atI (ds.map V.int) (k : Int) = some (.int z) ∧ 0 ≤ z ∧ z < 60 := by
  refine ⟨ds[k], atI_nat (by simp [hk]), hd _ (List.getElem_mem _)⟩
theorem shift_down (x : Int) (n : Nat) (h : 0 ≤ x) : 0 ≤ x / 2 ^ n * 2 ^ n ∧ x / 2 ^ n * 2 ^ n ≤ x := by
  have hp : (0 : Int) < 2 ^ n := Int.pow_pos (by decide)
  have h1 := Int.ediv_mul_le x (Int.ne_of_gt hp)
  have h2 : 0 ≤ x / 2 ^ n := Int.ediv_nonneg h (Int.le_of_lt hp)
  exact ⟨Int.mul_nonneg h2 (Int.le_of_lt hp), h1⟩
theorem pure_law_pair {K : PySem.W.Frag} (vs : List V) (H : Hp) (Q : VK) (E : XK) (h : sp_law_pair K vs H Q E) : t_law_pair K E { nx := fun _ H' => Q .non H', rt := Q } (start N_law_pair vs) H := by
  obtain ⟨⟨c, s, rfl⟩, q⟩ := h
  unfold t_law_pair
  repeat walk_at "mst"
  refine ⟨⟨s, 4, rfl, by decide, by decide⟩, ?_⟩
  rintro v H1 ⟨_, _, pd, ds, e, rfl, hpd, e1, hds, hn, hb⟩
  cases e
  have hn4 : ds.length = 4 := by omega
  obtain ⟨d0, a0, b0⟩ := dg_at hb (k := 0) (by omega)
  obtain ⟨d1, a1, b1⟩ := dg_at hb (k := 1) (by omega)
  obtain ⟨d2, a2, b2⟩ := dg_at hb (k := 2) (by omega)
  obtain ⟨d3, a3, b3⟩ := dg_at hb (k := 3) (by omega)
  repeat walk_at "mst"
  refine k_ixL (k_sq hds) a0 ?_
  repeat walk_at "mst"
  refine k_ixL (k_sq hds) a1 ?_
  repeat walk_at "mst"
  rename_i most hm1 hm2 hm3
  have hm0 : 1 ≤ most := by omega
  generalize hT : c % (2 * most + 1) - most = top
  have ht : -1000000000000 ≤ top ∧ top ≤ 1000000000000 := by
    have h1 := Int.emod_nonneg c (by omega : 2 * most + 1 ≠ 0)
    have h2 := Int.emod_lt_of_pos c (by omega : 0 < 2 * most + 1)
    omega
  clear hT
  refine k_cut (fun σ' H' => ∃ (top : Int) (z : Option V), (-1000000000000 ≤ top ∧ top ≤ 1000000000000) ∧ H1 = H' ∧ σ' = [some (.int c), some (.int s), some (.ref pd), some (.int (d0 % 41)), some (.int most), some (.int top), z]) ?_ ?_
  · repeat walk_at "mst"
    refine k_ixL (k_sq hds) a2 ?_
    repeat walk_at "mst"
    refine k_iteD (fun hc => ?_) (fun hc => ?_)
    · repeat walk_at "mst"
      refine k_ixL (k_sq hds) a3 ?_
      repeat walk_at "mst"
      refine k_ixL (k_sq hds) a3 ?_
      repeat walk_at "mst"
      have hA : 0 ≤ (if top < 0 then -top else top) ∧ (if top < 0 then -top else top) ≤ 1000000000000 := by split <;> omega
      generalize (if top < 0 then -top else top) = A at hA
      have hs := shift_down A (d3 % 40).toNat hA.1
      have hq : 0 ≤ A / 2 ^ (d3 % 40).toNat ∧ A / 2 ^ (d3 % 40).toNat ≤ A := ⟨Int.ediv_nonneg hA.1 (Int.le_of_lt (Int.pow_pos (by decide))), Int.ediv_le_self _ hA.1⟩
      refine k_I ⟨by omega, by omega, by omega⟩ ?_
      generalize A / 2 ^ (d3 % 40).toNat * 2 ^ (d3 % 40).toNat = B at hs
      repeat walk_at "mst"
      refine k_iteD (fun hc => ?_) (fun hc => ?_)
      · repeat walk_at "mst"
        exact ⟨B, _, by omega, rfl, rfl⟩
      · repeat walk_at "mst"
        exact ⟨-B, _, by omega, rfl, rfl⟩
    · repeat walk_at "mst"
      exact ⟨top, _, ht, rfl, rfl⟩
  · rintro σ' H' ⟨top, z, ht, rfl, rfl⟩
    refine k_cut (fun σ' H'' => ∃ (top : Int) (z : Option V), (-1000000000000 ≤ top ∧ top ≤ 1000000000000) ∧ Ex H1 H'' ∧ σ' = [some (.int c), some (.int s), some (.ref pd), some (.int (d0 % 41)), some (.int most), some (.int top), z]) ?_ ?_
    · repeat walk_at "mst"
      refine k_ixL (k_sq hds) a2 ?_
      repeat walk_at "mst"
      refine k_iteD (fun hc => ?_) (fun hc => ?_)
      · repeat walk_at "mst"
        refine ⟨by show 7 ≤ sizeLine; decide, fun l hl => ?_⟩
        repeat walk_at "mst"
        refine k_ixL (k_sq (by rw [upd_ne (ne_of_none hds hl)]; exact hds)) a3 ?_
        repeat walk_at "mst"
        obtain ⟨z7, hz7, hr⟩ : ∃ z7 : Int, atI [V.int 0, V.int 1, V.int (-1), V.int 1000000000000, V.int (-1000000000000), V.int (1000000000000 - 1), V.int (1 - 1000000000000)] (d3 % 7) = some (.int z7) ∧ -1000000000000 ≤ z7 ∧ z7 ≤ 1000000000000 := by
          have h7 : d3 % 7 = 0 ∨ d3 % 7 = 1 ∨ d3 % 7 = 2 ∨ d3 % 7 = 3 ∨ d3 % 7 = 4 ∨ d3 % 7 = 5 ∨ d3 % 7 = 6 := by omega
          rcases h7 with h | h | h | h | h | h | h <;> rw [h] <;> exact ⟨_, rfl, by decide, by decide⟩
        refine k_ixL (k_sq upd_same) hz7 ?_
        repeat walk_at "mst"
        exact ⟨z7, _, hr, Evl.Ex.new hl, rfl⟩
      · repeat walk_at "mst"
        exact ⟨top, _, ht, Evl.Ex.refl _, rfl⟩
    · rintro σ' H2 ⟨top, z, ht, e2, rfl⟩
      repeat walk_at "mst"
      refine ⟨two_le _ _, fun p hp => q _ _ ⟨p, top, d0 % 41, rfl, Evl.fresh_back (e1.trans e2) hp, (e1.trans e2).trans (Evl.Ex.new hp), upd_same, ht, by omega, by omega⟩⟩
theorem use_pair {K : PySem.W.Frag} {H : Hp} {Q : VK} {E : XK} {c n : Int} (q : ∀ p a b H', H p = none → Ex H H' → H' p = some (.tup [.int a, .int b]) → (-1000000000000 ≤ a ∧ a ≤ 1000000000000) → 0 ≤ b ∧ b ≤ 40 → Q (.ref p) H') : sp_law_pair K ([.int c, .int n] ++ []) H Q E := by
  refine ⟨⟨c, n, rfl⟩, ?_⟩
  rintro v H' ⟨p, a, b, rfl, h1, h2, h3, h4, h5⟩
  exact q p a b H' h1 h2 h3 h4 h5
def sp_law_cell (K : PySem.W.Frag) : Sp := fun vs H Q _ => ∃ (a : Addr) (ns : List Int) (k : Int), vs = [.ref a, .int k] ∧ SqL K H a (ns.map V.int) ∧ 0 ≤ k ∧ ∀ i, (i ∈ ns ∨ (0 ≤ i ∧ i < 2147483647) ∨ i = 104729 * k + 7) → Q (.int i) H
abbrev N_law_cell : List Str := ["script", "k", "mixed", "cell"]
def t_law_cell (K : PySem.W.Frag) (E : XK) : TS := (tSeq (tIfS (tTest (tOp rLtI (tVar 1) (tCB (rLenQ K) (tCons (tVar 0) tNil)))) (tRet (tOp (rIxL K) (tVar 0) (tVar 1))) tNext) (tSeq (tAsg (tOp rAddI (tOp rMulI (tC (.int 104729)) (tVar 1)) (tC (.int 7))) (gName 2)) (tSeq (tFor (iList K (tVar 0)) (gName 3) (tAsg (tOp rModI (tCB rIntI (tCons (tOp rAddI (tOp rMulI (tVar 2) (tC (.int 31))) (tVar 3)) tNil)) (tC (.int 2147483647))) (gName 2))) (tRet (tVar 2)))))
theorem len_law_cell {K : PySem.W.Frag} {vs : List V} {H : Hp} {Q : VK} {E : XK} (h : sp_law_cell K vs H Q E) : vs.length = 2 := by
  obtain ⟨_, _, _, rfl, _⟩ := h; rfl
theorem pure_law_cell {K : PySem.W.Frag} (vs : List V) (H : Hp) (Q : VK) (E : XK) (h : sp_law_cell K vs H Q E) : t_law_cell K E { nx := fun _ H' => Q .non H', rt := Q } (start N_law_cell vs) H := by
  obtain ⟨a, ns, k, rfl, hS, hk, q⟩ := h
  unfold t_law_cell
  repeat walk_at "mst"
  refine k_iteD (fun hc => ?_) (fun hc => ?_)
  · rw [List.length_map] at hc
    obtain ⟨z, mz, hz⟩ := at_int hk hc
    repeat walk_at "mst"
    exact k_ixL hS hz (q _ (Or.inl (List.mem_of_getElem? mz)))
  · repeat walk_at "mst"
    refine ⟨a, rfl, ⟨_, hS⟩, forK_list (xs := ns.map V.int) (fun i σ H' => H' = H ∧ ∃ (m : Int) (v : Option V), ((0 ≤ m ∧ m < 2147483647) ∨ m = 104729 * k + 7) ∧ σ = [some (.ref a), some (.int k), some (.int m), v]) ⟨rfl, _, _, Or.inr rfl, rfl⟩ ?_ ?_ ?_⟩
    · rintro i σ H' _ ⟨rfl, _⟩; exact hS
    · rintro i x σ H' hx ⟨rfl, m, v, _, rfl⟩
      obtain ⟨z, _, rfl⟩ := get_int hx
      repeat walk_at "mst"
      exact ⟨rfl, _, _, Or.inl ⟨by omega, by omega⟩, rfl⟩
    · rintro σ H' ⟨rfl, m, v, b, rfl⟩
      repeat walk_at "mst"
      exact q _ (Or.inr b)
theorem use_cellB {K : PySem.W.Frag} {H : Hp} {Q : VK} {E : XK} {a : Addr} {ns : List Int} {k : Int} (h : SqL K H a (ns.map V.int)) (h0 : 0 ≤ k) (q : ∀ i, (i ∈ ns ∨ (0 ≤ i ∧ i < 2147483647) ∨ i = 104729 * k + 7) → Q (.int i) H) : sp_law_cell K ([.ref a, .int k] ++ []) H Q E := ⟨a, ns, k, rfl, h, h0, q⟩
theorem use_cell {K : PySem.W.Frag} {H : Hp} {Q : VK} {E : XK} {a : Addr} {ns : List Int} {k : Int} (h : SqL K H a (ns.map V.int)) (h0 : 0 ≤ k) (q : ∀ i, Q (.int i) H) : sp_law_cell K ([.ref a, .int k] ++ []) H Q E := ⟨a, ns, k, rfl, h, h0, fun i _ => q i⟩
def sp_law_plain (K : PySem.W.Frag) : Sp := spR (fun vs H => ∃ (a b : Int), vs = [.int a, .int b] ∧ 0 ≤ b ∧ b ≤ 64)
  (fun vs H v H' => ∃ (a b : Int) (p : Addr), vs = [.int a, .int b] ∧ v = .ref p ∧ H p = none ∧ H' = upd H p (.tup [.int (plainZ a b.toNat).1, .int (plainZ a b.toNat).2]))
abbrev N_law_plain : List Str := ["top", "power", "k"]
def t_law_plain (K : PySem.W.Frag) (E : XK) : TS := (tSeq (tFor (iRng1 (tCons (tC (.int 64)) tNil)) (gName 2) (tIfS (tAnd (tTest (tOp rGtI (tVar 1) (tC (.int 0)))) (tTest (tOp rEq (tOp rModI (tCB rIntI (tCons (tVar 0) tNil)) (tC (.int 2))) (tC (.int 0))))) (tSeq (tAsg (tOp rDivI (tVar 0) (tC (.int 2))) (gName 0)) (tAsg (tOp rSubI (tVar 1) (tC (.int 1))) (gName 1))) tNext)) (tRet (tTup (tCons (tVar 0) (tCons (tVar 1) tNil)))))
theorem len_law_plain {K : PySem.W.Frag} {vs : List V} {H : Hp} {Q : VK} {E : XK} (h : sp_law_plain K vs H Q E) : vs.length = 2 := by
  obtain ⟨⟨_, _, rfl, _⟩, _⟩ := h; rfl
theorem pure_law_plain {K : PySem.W.Frag} (vs : List V) (H : Hp) (Q : VK) (E : XK) (h : sp_law_plain K vs H Q E) : t_law_plain K E { nx := fun _ H' => Q .non H', rt := Q } (start N_law_plain vs) H := by
  obtain ⟨⟨a, b, rfl, h0, h1⟩, q⟩ := h
  unfold t_law_plain
  repeat walk_at "mst"
  refine ⟨_, rfl, by omega, by omega, forK_range (fun i σ H' => H' = H ∧ ∃ (x y : Int) (v : Option V), σ = [some (.int x), some (.int y), v] ∧ 0 ≤ y ∧ y ≤ 64 ∧ plainZ x y.toNat = plainZ a b.toNat ∧ (y + i ≤ 64 ∨ plainZ x y.toNat = (x, y))) ?_ ?_ ?_⟩
  · exact ⟨rfl, a, b, none, rfl, h0, h1, rfl, by omega⟩
  · rintro i σ H' hi ⟨rfl, x, y, v, rfl, hy, hy2, e, hm⟩
    repeat walk_at "mst"
    refine k_iteD (fun hc => ?_) (fun hc => ?_)
    · repeat walk_at "mst"
      refine k_iteD (fun hd => ?_) (fun hd => ?_)
      · repeat walk_at "mst"
        have s1 : (y - 1).toNat + 1 = y.toNat := by omega
        have e1 : plainZ x y.toNat = plainZ (x / 2) (y - 1).toNat := by
          rw [← s1, plainZ_even hd]
        refine ⟨rfl, x / 2, y - 1, _, rfl, by omega, by omega, e1.symm.trans e, ?_⟩
        rcases hm with hm | hm
        · left; omega
        · exfalso
          have z := plainZ_le (x / 2) (y - 1).toNat
          rw [← e1, hm] at z
          simp only at z; omega
      · repeat walk_at "mst"
        refine ⟨rfl, x, y, _, rfl, hy, hy2, e, Or.inr ?_⟩
        have s1 : (y - 1).toNat + 1 = y.toNat := by omega
        rw [← s1, plainZ_odd hd]
        congr 1; omega
    · repeat walk_at "mst"
      refine ⟨rfl, x, y, _, rfl, hy, hy2, e, Or.inr ?_⟩
      have s1 : y.toNat = 0 := by omega
      rw [s1, plainZ_zero]
      congr 1; omega
  · rintro σ H' ⟨rfl, x, y, v, rfl, hy, hy2, e, hm⟩
    repeat walk_at "mst"
    refine ⟨two_le _ _, fun p hp => q _ _ ⟨a, b, p, rfl, rfl, hp, ?_⟩⟩
    have e2 : plainZ a b.toNat = (x, y) := by
      rw [← e]
      rcases hm with hm | hm
      · have : y.toNat = 0 := by omega
        rw [this, plainZ_zero]; congr 1; omega
      · exact hm
    rw [e2]
theorem use_plain {K : PySem.W.Frag} {H : Hp} {Q : VK} {E : XK} {a b : Int} (h : 0 ≤ b ∧ b ≤ 64) (q : ∀ p, H p = none → Q (.ref p) (upd H p (.tup [.int (plainZ a b.toNat).1, .int (plainZ a b.toNat).2]))) : sp_law_plain K ([.int a, .int b] ++ []) H Q E := by
  refine ⟨⟨a, b, rfl, h.1, h.2⟩, ?_⟩
  rintro v H' ⟨a', b', p, e, rfl, h1, rfl⟩
  cases e
  exact q p h1
open SX (S)
def sp_law_text (K : PySem.W.Frag) : Sp := fun vs H Q _ => ∃ (x y : Int), vs = [.int x, .int y] ∧ okTop x y ∧ ∀ H', Ex H H' → Q (.str (S (txtL (plainZ x y.toNat).1 (plainZ x y.toNat).2))) H'
local macro_rules | `(tactic| walk_at "mst") => `(tactic| first
  | with_reducible refine k_isiSS ?_
  | with_reducible refine k_typS ?_
  | with_reducible refine k_NT ?_
  | with_reducible refine k_tys ?_
  | with_reducible refine k_eqS ?_
  | with_reducible refine k_neS ?_
  | with_reducible refine k_inS ?_
  | with_reducible refine k_truS ?_)
abbrev N_law_text : List Str := ["top", "power", "plain"]
def t_law_text (K : PySem.W.Frag) (E : XK) : TS := (tSeq (tAsg (tCall (sp_law_plain K) [] E0 (tCons (tVar 0) (tCons (tVar 1) tNil))) (gName 2)) (tSeq (tIfS (tTest (tOp rEq (tOp (rIxT K) (tVar 2) (tC (.int 1))) (tC (.int 0)))) (tRet (tCB rStrI (tCons (tOp (rIxT K) (tVar 2) (tC (.int 0))) tNil))) tNext) (tRet (tOp rCatS (tOp rCatS (tCB rStrI (tCons (tOp (rIxT K) (tVar 2) (tC (.int 0))) tNil)) (tC (.str "/"))) (tCB rStrI (tCons (tOp rShlI (tC (.int 1)) (tOp (rIxT K) (tVar 2) (tC (.int 1)))) tNil))))))
theorem len_law_text {K : PySem.W.Frag} {vs : List V} {H : Hp} {Q : VK} {E : XK} (h : sp_law_text K vs H Q E) : vs.length = 2 := by
  obtain ⟨_, _, rfl, _⟩ := h; rfl
theorem pure_law_text {K : PySem.W.Frag} (vs : List V) (H : Hp) (Q : VK) (E : XK) (h : sp_law_text K vs H Q E) : t_law_text K E { nx := fun _ H' => Q .non H', rt := Q } (start N_law_text vs) H := by
  obtain ⟨x, y, rfl, ok, q⟩ := h
  obtain ⟨ok1, ok2⟩ := okTop_pl ok
  have y1 := ok.2
  unfold t_law_text
  rw [slash_S]
  repeat walk_at "mst"
  refine use_plain ⟨y1.1, by omega⟩ fun P hP => ?_
  generalize (plainZ x y.toNat).1 = t at *
  generalize (plainZ x y.toNat).2 = p at *
  have sP : (upd H P (HO.tup [V.int t, V.int p])) P = some (HO.tup [V.int t, V.int p]) := upd_same
  have e1 := Evl.Ex.new (o := HO.tup [V.int t, V.int p]) hP
  generalize (upd H P (HO.tup [V.int t, V.int p])) = H1 at *
  have l1 := intL_len ok1
  have l2 := pw_len ok2
  repeat walk_at "mst"
  refine k_iteD (fun hp => ?_) (fun hp => ?_)
  · repeat walk_at "mst"
    refine k_strI ⟨by omega, by omega⟩ ?_
    have e : txtL t p = intL t := by unfold txtL; rw [if_pos hp]
    rw [← e]; exact q _ e1
  · repeat walk_at "mst"
    refine k_strI ⟨by omega, by omega⟩ ?_
    repeat walk_at "mst"
    refine k_catS (by simp; omega) ?_
    repeat walk_at "mst"
    rename_i m hm1 hm2
    obtain ⟨c1, c2, c3⟩ := pw_ok ok2
    rw [Int.one_mul] at c1
    rw [c1] at hm2
    subst hm2
    refine k_strI ⟨by omega, by omega⟩ ?_
    have ei : intL ((2 ^ p.toNat : Nat) : Int) = TL.numL (2 ^ p.toNat) := by
      unfold intL
      rw [if_neg (by omega)]; rfl
    rw [ei]
    refine k_catS (by simp; omega) ?_
    have e : txtL t p = intL t ++ [47] ++ TL.numL (2 ^ p.toNat) := by unfold txtL; rw [if_neg hp]; simp
    rw [← e]; exact q _ e1
theorem use_ltext {K : PySem.W.Frag} {H : Hp} {Q : VK} {E : XK} {x y : Int} (ok : okTop x y) (q : ∀ H', Ex H H' → Q (.str (S (txtL (plainZ x y.toNat).1 (plainZ x y.toNat).2))) H') : sp_law_text K ([.int x, .int y] ++ []) H Q E := ⟨x, y, rfl, ok, q⟩
open SX (S)
def sp_law_spoilt (K : PySem.W.Frag) : Sp := fun vs H Q _ => ∃ (l : List Nat) (a : Addr) (ds : List Int), vs = [.str (S l), .ref a] ∧ l ≠ [] ∧ l.length ≤ 200 ∧ SqL K H a (ds.map V.int) ∧ 3 ≤ ds.length ∧ ∀ m : List Nat, m.length ≤ l.length + l.length + 1 → Q (.str (S m)) H
local macro_rules | `(tactic| walk_at "mst") => `(tactic| first
  | with_reducible refine k_isiSS ?_
  | with_reducible refine k_typS ?_
  | with_reducible refine k_NT ?_
  | with_reducible refine k_tys ?_
  | with_reducible refine k_eqS ?_
  | with_reducible refine k_neS ?_
  | with_reducible refine k_inS ?_
  | with_reducible refine k_truS ?_)
local macro_rules | `(tactic| walk_at "mst") => `(tactic| first
  | with_reducible refine k_tsl ?_
  | with_reducible refine k_part ?_
  | with_reducible refine k_nopart ?_
  | with_reducible refine k_exi ?_)
abbrev N_law_spoilt : List Str := ["text", "digits", "chars", "char", "place"]
def t_law_spoilt (K : PySem.W.Frag) (E : XK) : TS := (tSeq (tAsg (tC (.str "0123456789-/+ .a_\n")) (gName 2)) (tSeq (tAsg (tOp rIxS (tVar 2) (tOp rModI (tCB rIntI (tCons (tOp (rIxL K) (tVar 1) (tC (.int 1))) tNil)) (tC (.int 18)))) (gName 3)) (tSeq (tAsg (tOp rModI (tCB rIntI (tCons (tOp (rIxL K) (tVar 1) (tC (.int 2))) tNil)) (tOp rAddI (tCB rLenS (tCons (tVar 0) tNil)) (tC (.int 1)))) (gName 4)) (tSeq (tIfS (tTest (tOp rEq (tOp rModI (tCB rIntI (tCons (tOp (rIxL K) (tVar 1) (tC (.int 0))) tNil)) (tC (.int 3))) (tC (.int 0)))) (tRet (tOp rCatS (tOp rCatS (tSl rSlS (tVar 0) tNoPart (tPart (tVar 4))) (tVar 3)) (tSl rSlS (tVar 0) (tPart (tVar 4)) tNoPart))) tNext) (tSeq (tAsg (tOp rModI (tCB rIntI (tCons (tOp (rIxL K) (tVar 1) (tC (.int 2))) tNil)) (tCB rLenS (tCons (tVar 0) tNil))) (gName 4)) (tSeq (tIfS (tTest (tOp rEq (tOp rModI (tCB rIntI (tCons (tOp (rIxL K) (tVar 1) (tC (.int 0))) tNil)) (tC (.int 3))) (tC (.int 1)))) (tRet (tOp rCatS (tSl rSlS (tVar 0) tNoPart (tPart (tVar 4))) (tSl rSlS (tVar 0) (tPart (tOp rAddI (tVar 4) (tC (.int 1)))) tNoPart))) tNext) (tRet (tOp rCatS (tOp rCatS (tSl rSlS (tVar 0) tNoPart (tPart (tVar 4))) (tVar 3)) (tSl rSlS (tVar 0) (tPart (tOp rAddI (tVar 4) (tC (.int 1)))) tNoPart)))))))))
theorem len_law_spoilt {K : PySem.W.Frag} {vs : List V} {H : Hp} {Q : VK} {E : XK} (h : sp_law_spoilt K vs H Q E) : vs.length = 2 := by
  obtain ⟨_, _, _, rfl, _⟩ := h; rfl
theorem int_at {ds : List Int} {k : Nat} (hk : k < ds.length) : ∃ z, atI (ds.map V.int) (k : Int) = some (.int z) := ⟨ds[k], atI_nat (by simp [hk])⟩
theorem pure_law_spoilt {K : PySem.W.Frag} (vs : List V) (H : Hp) (Q : VK) (E : XK) (h : sp_law_spoilt K vs H Q E) : t_law_spoilt K E { nx := fun _ H' => Q .non H', rt := Q } (start N_law_spoilt vs) H := by
  obtain ⟨l, a, ds, rfl, hne, hl, hS, h3, q⟩ := h
  have hl0 : 0 < l.length := List.length_pos_iff.mpr hne
  obtain ⟨d0, a0⟩ := int_at (ds := ds) (k := 0) (by omega)
  obtain ⟨d1, a1⟩ := int_at (ds := ds) (k := 1) (by omega)
  obtain ⟨d2, a2⟩ := int_at (ds := ds) (k := 2) (by omega)
  obtain ⟨cl, ecl⟩ := str_S ("0123456789-/+ .a_\n" : Str)
  have hcl : cl.length = 18 := by
    have := congrArg (fun y : Str => y.cps.toList.length) ecl
    exact this.symm.trans (by decide +kernel)
  unfold t_law_spoilt
  rw [ecl]
  repeat walk_at "mst"
  refine k_ixL hS a1 ?_
  repeat walk_at "mst"
  refine k_ixS hcl (by decide) (by omega) (by omega) fun c hc => ?_
  rw [one_S]
  repeat walk_at "mst"
  refine k_ixL hS a2 ?_
  repeat walk_at "mst"
  refine k_lenS (by omega) ?_
  repeat walk_at "mst"
  refine k_ixL hS a0 ?_
  repeat walk_at "mst"
  refine k_iteD (fun h => ?_) (fun h => ?_)
  · repeat walk_at "mst"
    refine k_slS (l := l) (by omega) fun m1 h1 => ?_
    repeat walk_at "mst"
    refine k_catS (by simp; omega) ?_
    repeat walk_at "mst"
    refine k_slS (l := l) (by omega) fun m2 h2 => ?_
    repeat walk_at "mst"
    refine k_catS (by simp; omega) ?_
    exact q _ (by simp; omega)
  · repeat walk_at "mst"
    refine k_ixL hS a2 ?_
    repeat walk_at "mst"
    refine k_lenS (by omega) ?_
    repeat walk_at "mst"
    refine k_ixL hS a0 ?_
    repeat walk_at "mst"
    refine k_iteD (fun h => ?_) (fun h => ?_)
    · repeat walk_at "mst"
      refine k_slS (l := l) (by omega) fun m1 h1 => ?_
      repeat walk_at "mst"
      refine k_slS (l := l) (by omega) fun m2 h2 => ?_
      refine k_catS (by omega) ?_
      exact q _ (by simp; omega)
    · repeat walk_at "mst"
      refine k_slS (l := l) (by omega) fun m1 h1 => ?_
      repeat walk_at "mst"
      refine k_catS (by simp; omega) ?_
      repeat walk_at "mst"
      refine k_slS (l := l) (by omega) fun m2 h2 => ?_
      refine k_catS (by simp; omega) ?_
      exact q _ (by simp; omega)
theorem use_spoilt {K : PySem.W.Frag} {H : Hp} {Q : VK} {E : XK} {l : List Nat} {a : Addr} {ds : List Int} (hne : l ≠ []) (hl : l.length ≤ 200) (hS : SqL K H a (ds.map V.int)) (h3 : 3 ≤ ds.length) (q : ∀ m : List Nat, m.length ≤ l.length + l.length + 1 → Q (.str (S m)) H) : sp_law_spoilt K ([.str (S l), .ref a] ++ []) H Q E := ⟨l, a, ds, rfl, hne, hl, hS, h3, q⟩
open SX (S)
def sp_law_odd (K : PySem.W.Frag) : Sp := fun vs H Q _ => ∃ k : Int, vs = [.int k] ∧ ∀ v H', Ex H H' → Tx 420 v → Q v H'
local macro_rules | `(tactic| walk_at "mst") => `(tactic| first
  | with_reducible refine k_isiSS ?_
  | with_reducible refine k_typS ?_
  | with_reducible refine k_NT ?_
  | with_reducible refine k_tys ?_
  | with_reducible refine k_eqS ?_
  | with_reducible refine k_neS ?_
  | with_reducible refine k_inS ?_
  | with_reducible refine k_truS ?_)
abbrev N_law_odd : List Str := ["k", "texts"]
def t_law_odd (K : PySem.W.Frag) (E : XK) : TS := (tSeq (tAsg (tLst (tCons (tC (.str "")) (tCons (tC (.str "-")) (tCons (tC (.str "/")) (tCons (tC (.str "1/")) (tCons (tC (.str "/2")) (tCons (tC (.str "1//2")) (tCons (tC (.str "1/2/2")) (tCons (tC (.str "1/2/")) (tCons (tC (.str " 1")) (tCons (tC (.str "1 ")) (tCons (tC (.str "1\n")) (tCons (tC (.str "-0")) (tCons (tC (.str "0/2")) (tCons (tC (.str "00")) (tCons (tC (.str "1/0")) (tCons (tC (.str "-1/-2")) tNil))))))))))))))))) (gName 1)) (tSeq (tAsg (tOp rCat (tVar 1) (tLst (tCons (tC (.str "1000000000001")) (tCons (tC (.str "-1000000000001")) (tCons (tC (.str "999999999999/1099511627776")) (tCons (tC (.str "1/2199023255552")) (tCons (tC (.str "1/-2")) (tCons (tC (.str "--1")) tNil)))))))) (gName 1)) (tSeq (tAsg (tOp rCat (tVar 1) (tLst (tCons (tC (.str "999999999999/1099511627776\n")) (tCons (tC (.str "1000000000000")) (tCons (tC (.str "-1000000000000")) (tCons (tC (.str "+1")) (tCons (tC (.str "1/3")) (tCons (tC (.str "3/6")) (tCons (tC (.str "3/1")) tNil))))))))) (gName 1)) (tSeq (tAsg (tOp rCat (tVar 1) (tLst (tCons (tOp rRepS (tC (.str "1")) (tC (.int 400))) (tCons (tOp rCatS (tC (.str "1/")) (tOp rRepS (tC (.str "2")) (tC (.int 400)))) (tCons (tC (.str "1/02")) (tCons (tC (.str "01/2")) (tCons (tC (.str "0x1")) (tCons (tC (.str "1_0")) (tCons (tC (.str "1e3")) (tCons (tC (.str "1/2-")) (tCons (tC (.str "-1/2")) (tCons (tC (.str "0")) (tCons (tC (.str "1000000000001/2")) tNil))))))))))))) (gName 1)) (tRet (tOp (rIxL K) (tVar 1) (tOp rModI (tCB rIntI (tCons (tVar 0) tNil)) (tC (.int 40)))))))))
theorem len_law_odd {K : PySem.W.Frag} {vs : List V} {H : Hp} {Q : VK} {E : XK} (h : sp_law_odd K vs H Q E) : vs.length = 1 := by
  obtain ⟨_, rfl, _⟩ := h; rfl
theorem rep_size (a : Array Nat) : ∀ (n : Nat) (acc : Array Nat), ((List.replicate n a).foldl (· ++ ·) acc).size = acc.size + n * a.size
  | 0, acc => by simp
  | n + 1, acc => by
    rw [List.replicate_succ, List.foldl_cons, rep_size a n, Array.size_append, Nat.succ_mul]; omega
theorem rep_tx (c : Nat) (H : Hp) (Q : VK) (q : ∀ m : List Nat, m.length = 400 → Q (.str (S m)) H) : rRepS (.str (S [c])) (.int 400) H Q := by
  refine ⟨S [c], 400, rfl, rfl, ?_, ?_⟩
  · refine ⟨by decide, fun _ _ => ?_, fun _ _ => ?_⟩
    · show ¬ ((1 : Int) > (2 ^ 63 - 1) / 400)
      decide
    · show PySem.Builtin.Str.tooLong (1 * 400) = false
      decide +kernel
  · obtain ⟨m, e⟩ := str_S (Txt.mul (S [c]) 400)
    rw [e]
    refine q m ?_
    have h1 : (Txt.mul (S [c]) 400).cps = (List.replicate 400 #[c]).foldl (· ++ ·) #[] := by
      unfold Txt.mul
      rw [if_neg (by decide), if_neg (by simp [Str.length])]
      rfl
    have h2 := congrArg (fun y : Str => y.cps.size) e
    dsimp only at h2
    rw [h1, rep_size] at h2
    simpa using h2.symm
theorem one_1 : (("1" : Str)) = S [49] := by apply TL.ext_tl; rfl
theorem one_2 : (("2" : Str)) = S [50] := by apply TL.ext_tl; rfl
theorem one_s : (("1/" : Str)) = S [49, 47] := by apply TL.ext_tl; rfl
theorem cat_tx {n : Nat} {xs ys : List V} (h : ∀ v ∈ xs, Tx n v) (h' : ∀ v ∈ ys, Tx n v) : ∀ v ∈ xs ++ ys, Tx n v := fun v hv => by
  rcases List.mem_append.mp hv with hv | hv
  · exact h v hv
  · exact h' v hv
theorem at_tx {xs : List V} {i : Int} {n N : Nat} (hn : xs.length = N) (h : ∀ x ∈ xs, Tx n x) (h0 : 0 ≤ i) (h1 : i < N) : ∃ x, atI xs i = some x ∧ Tx n x := by
  have hk : i.toNat < xs.length := by omega
  refine ⟨xs[i.toNat], ?_, h _ (List.getElem_mem hk)⟩
  have e : ((i.toNat : Nat) : Int) = i := by omega
  have z : atI xs ((i.toNat : Nat) : Int) = some xs[i.toNat] := atI_nat (by simp [hk])
  rw [e] at z
  exact z
theorem k_cat {l b : Addr} {xs zs : List V} {H : Hp} {Q : VK} (h1 : H l = some (.lst xs)) (h2 : H b = some (.lst zs)) (hl : xs.length + zs.length ≤ 600) (q : ∀ p, H p = none → Q (.ref p) (upd H p (.lst (xs ++ zs)))) : rCat (.ref l) (.ref b) H Q := ⟨l, b, xs, zs, rfl, rfl, h1, h2, line_ok hl, q⟩
theorem all16 : ∀ v ∈ ([.str "", .str "-", .str "/", .str "1/", .str "/2", .str "1//2", .str "1/2/2", .str "1/2/", .str " 1", .str "1 ", .str "1\n", .str "-0", .str "0/2", .str "00", .str "1/0", .str "-1/-2"] : List V), Tx 420 v := by
  intro v hv
  simp only [List.mem_cons, List.not_mem_nil, or_false] at hv
  rcases hv with rfl | rfl | rfl | rfl | rfl | rfl | rfl | rfl | rfl | rfl | rfl | rfl | rfl | rfl | rfl | rfl
  all_goals exact tx_of (by decide +kernel)
theorem all6 : ∀ v ∈ ([.str "1000000000001", .str "-1000000000001", .str "999999999999/1099511627776", .str "1/2199023255552", .str "1/-2", .str "--1"] : List V), Tx 420 v := by
  intro v hv
  simp only [List.mem_cons, List.not_mem_nil, or_false] at hv
  rcases hv with rfl | rfl | rfl | rfl | rfl | rfl
  all_goals exact tx_of (by decide +kernel)
theorem all7 : ∀ v ∈ ([.str "999999999999/1099511627776\n", .str "1000000000000", .str "-1000000000000", .str "+1", .str "1/3", .str "3/6", .str "3/1"] : List V), Tx 420 v := by
  intro v hv
  simp only [List.mem_cons, List.not_mem_nil, or_false] at hv
  rcases hv with rfl | rfl | rfl | rfl | rfl | rfl | rfl
  all_goals exact tx_of (by decide +kernel)
theorem all11 {m n : List Nat} (hm : m.length = 400) (hn : n.length = 402) : ∀ v ∈ ([.str (S m), .str (S n), .str "1/02", .str "01/2", .str "0x1", .str "1_0", .str "1e3", .str "1/2-", .str "-1/2", .str "0", .str "1000000000001/2"] : List V), Tx 420 v := by
  intro v hv
  simp only [List.mem_cons, List.not_mem_nil, or_false] at hv
  rcases hv with rfl | rfl | rfl | rfl | rfl | rfl | rfl | rfl | rfl | rfl | rfl
  · exact ⟨m, rfl, by omega⟩
  · exact ⟨n, rfl, by omega⟩
  all_goals exact tx_of (by decide +kernel)
theorem pure_law_odd {K : PySem.W.Frag} (vs : List V) (H : Hp) (Q : VK) (E : XK) (h : sp_law_odd K vs H Q E) : t_law_odd K E { nx := fun _ H' => Q .non H', rt := Q } (start N_law_odd vs) H := by
  obtain ⟨k, rfl, q⟩ := h
  unfold t_law_odd
  rw [one_1, one_2, one_s]
  repeat walk_at "mst"
  refine ⟨by show 16 ≤ sizeLine; decide, fun p1 n1 => ?_⟩
  have h1 := all16
  rw [one_s] at h1
  generalize hL1 : ([.str "", .str "-", .str "/", .str (S [49, 47]), .str "/2", .str "1//2", .str "1/2/2", .str "1/2/", .str " 1", .str "1 ", .str "1\n", .str "-0", .str "0/2", .str "00", .str "1/0", .str "-1/-2"] : List V) = L1 at *
  have l1 : L1.length = 16 := by rw [← hL1]; rfl
  have x1 := Evl.Ex.new (o := HO.lst L1) n1
  have s1 : (upd H p1 (HO.lst L1)) p1 = some (HO.lst L1) := upd_same
  generalize (upd H p1 (HO.lst L1)) = H1 at *
  repeat walk_at "mst"
  refine ⟨by show 6 ≤ sizeLine; decide, fun p2 n2 => ?_⟩
  have h2 := all6
  generalize hL2 : ([.str "1000000000001", .str "-1000000000001", .str "999999999999/1099511627776", .str "1/2199023255552", .str "1/-2", .str "--1"] : List V) = L2 at *
  have l2 : L2.length = 6 := by rw [← hL2]; rfl
  have x2 := Evl.Ex.new (o := HO.lst L2) n2
  refine k_cat (x2 _ _ s1) upd_same (by omega) fun p3 n3 => ?_
  have x3 := Evl.Ex.new (o := HO.lst (L1 ++ L2)) n3
  have s3 : (upd (upd H1 p2 (HO.lst L2)) p3 (HO.lst (L1 ++ L2))) p3 = some (HO.lst (L1 ++ L2)) := upd_same
  have e3 := x2.trans x3
  generalize (upd (upd H1 p2 (HO.lst L2)) p3 (HO.lst (L1 ++ L2))) = H3 at *
  repeat walk_at "mst"
  refine ⟨by show 7 ≤ sizeLine; decide, fun p4 n4 => ?_⟩
  have h4 := all7
  generalize hL4 : ([.str "999999999999/1099511627776\n", .str "1000000000000", .str "-1000000000000", .str "+1", .str "1/3", .str "3/6", .str "3/1"] : List V) = L4 at *
  have l4 : L4.length = 7 := by rw [← hL4]; rfl
  have x4 := Evl.Ex.new (o := HO.lst L4) n4
  refine k_cat (x4 _ _ s3) upd_same (by rw [List.length_append]; omega) fun p5 n5 => ?_
  have x5 := Evl.Ex.new (o := HO.lst (L1 ++ L2 ++ L4)) n5
  have s5 : (upd (upd H3 p4 (HO.lst L4)) p5 (HO.lst (L1 ++ L2 ++ L4))) p5 = some (HO.lst (L1 ++ L2 ++ L4)) := upd_same
  have e5 := x4.trans x5
  generalize (upd (upd H3 p4 (HO.lst L4)) p5 (HO.lst (L1 ++ L2 ++ L4))) = H5 at *
  repeat walk_at "mst"
  refine rep_tx 49 _ _ fun m hm => ?_
  repeat walk_at "mst"
  refine rep_tx 50 _ _ fun n hn => ?_
  refine k_catS (by simp; omega) ?_
  repeat walk_at "mst"
  refine ⟨by show 11 ≤ sizeLine; decide, fun p6 n6 => ?_⟩
  have h6 := all11 hm (show ([49, 47] ++ n).length = 402 by simp; omega)
  generalize hL6 : ([.str (S m), .str (S ([49, 47] ++ n)), .str "1/02", .str "01/2", .str "0x1", .str "1_0", .str "1e3", .str "1/2-", .str "-1/2", .str "0", .str "1000000000001/2"] : List V) = L6 at *
  have l6 : L6.length = 11 := by rw [← hL6]; rfl
  have x6 := Evl.Ex.new (o := HO.lst L6) n6
  refine k_cat (x6 _ _ s5) upd_same (by rw [List.length_append, List.length_append]; omega) fun p7 n7 => ?_
  have x7 := Evl.Ex.new (o := HO.lst (L1 ++ L2 ++ L4 ++ L6)) n7
  repeat walk_at "mst"
  obtain ⟨v, av, tv⟩ := at_tx (n := 420) (N := 40) (i := k % 40) (xs := L1 ++ L2 ++ L4 ++ L6) (by rw [List.length_append, List.length_append, List.length_append]; omega) (cat_tx (cat_tx (cat_tx h1 h2) h4) h6) (by omega) (by omega)
  refine k_ixL (k_sq upd_same) av ?_
  exact q _ _ (x1.trans (e3.trans (e5.trans (x6.trans x7)))) tv
theorem use_odd {K : PySem.W.Frag} {H : Hp} {Q : VK} {E : XK} {k : Int} (q : ∀ v H', Ex H H' → Tx 420 v → Q v H') : sp_law_odd K ([.int k] ++ []) H Q E := ⟨k, rfl, q⟩
open SX (S)
def sp_law_joined (K : PySem.W.Frag) : Sp := fun vs H Q _ => ∃ (a : Addr) (ds : List Int) (c : Int), vs = [.ref a, .int c] ∧ SqL K H a (ds.map V.int) ∧ 5 ≤ ds.length ∧ ∀ v H', Ex H H' → Tx 100 v → Q v H'
local macro_rules | `(tactic| walk_at "mst") => `(tactic| first
  | with_reducible refine k_isiSS ?_
  | with_reducible refine k_typS ?_
  | with_reducible refine k_NT ?_
  | with_reducible refine k_tys ?_
  | with_reducible refine k_eqS ?_
  | with_reducible refine k_neS ?_
  | with_reducible refine k_inS ?_
  | with_reducible refine k_truS ?_)
local macro_rules | `(tactic| walk_at "mst") => `(tactic| first
  | with_reducible refine k_tsl ?_
  | with_reducible refine k_part ?_
  | with_reducible refine k_nopart ?_
  | with_reducible refine k_exi ?_)
abbrev N_law_joined : List Str := ["digits", "cell", "word"]
def t_law_joined (K : PySem.W.Frag) (E : XK) : TS := (tSeq (tAsg (tOp rCatS (tOp (rIxL K) (tLst (tCons (tC (.str "")) (tCons (tC (.str "-")) (tCons (tC (.str "+")) (tCons (tC (.str "--")) (tCons (tC (.str "-")) tNil)))))) (tOp rModI (tCB rIntI (tCons (tOp (rIxL K) (tVar 0) (tC (.int 1))) tNil)) (tC (.int 5)))) (tSl rSlS (tCB rStrI (tCons (tOp rModI (tCB rIntI (tCons (tVar 1) tNil)) (tOp rPowI (tC (.int 10)) (tC (.int 14)))) tNil)) tNoPart (tPart (tOp rModI (tCB rIntI (tCons (tOp (rIxL K) (tVar 0) (tC (.int 2))) tNil)) (tC (.int 15)))))) (gName 2)) (Evl.tCut (tIfS (tTest (tOp rGtI (tOp rModI (tCB rIntI (tCons (tOp (rIxL K) (tVar 0) (tC (.int 3))) tNil)) (tC (.int 3))) (tC (.int 0)))) (tAsg (tOp rCatS (tOp rCatS (tVar 2) (tC (.str "/"))) (tOp (rIxL K) (tLst (tCons (tC (.str "1")) (tCons (tC (.str "2")) (tCons (tC (.str "4")) (tCons (tC (.str "02")) (tCons (tC (.str "8")) (tCons (tC (.str "3")) (tCons (tC (.str "0")) (tCons (tC (.str "")) (tCons (tC (.str "1099511627776")) (tCons (tC (.str "2199023255552")) tNil))))))))))) (tOp rModI (tCB rIntI (tCons (tOp (rIxL K) (tVar 0) (tC (.int 4))) tNil)) (tC (.int 10))))) (gName 2)) tNext) (tRet (tVar 2))))
theorem len_law_joined {K : PySem.W.Frag} {vs : List V} {H : Hp} {Q : VK} {E : XK} (h : sp_law_joined K vs H Q E) : vs.length = 2 := by
  obtain ⟨_, _, _, rfl, _⟩ := h; rfl
theorem int_atJ {ds : List Int} {k : Nat} (hk : k < ds.length) : ∃ z, atI (ds.map V.int) (k : Int) = some (.int z) := ⟨ds[k], atI_nat (by simp [hk])⟩
theorem at_txJ {xs : List V} {i : Int} {n N : Nat} (hn : xs.length = N) (h : ∀ x ∈ xs, Tx n x) (h0 : 0 ≤ i) (h1 : i < N) : ∃ x, atI xs i = some x ∧ Tx n x := by
  have hk : i.toNat < xs.length := by omega
  refine ⟨xs[i.toNat], ?_, h _ (List.getElem_mem hk)⟩
  have e : ((i.toNat : Nat) : Int) = i := by omega
  have z : atI xs ((i.toNat : Nat) : Int) = some xs[i.toNat] := atI_nat (by simp [hk])
  rw [e] at z
  exact z
theorem k_pow14 {H : Hp} {Q : VK} (q : Q (.int 100000000000000) H) : rPowI (.int 10) (.int 14) H Q := k_I ⟨by decide, by decide, by decide⟩ q
local macro_rules | `(tactic| walk_at "mst") => `(tactic| with_reducible refine k_pow14 ?_)
theorem all5 : ∀ v ∈ ([.str "", .str "-", .str "+", .str "--", .str "-"] : List V), Tx 20 v := by
  intro v hv
  simp only [List.mem_cons, List.not_mem_nil, or_false] at hv
  rcases hv with rfl | rfl | rfl | rfl | rfl
  all_goals exact tx_of (by decide +kernel)
theorem all10 : ∀ v ∈ ([.str "1", .str "2", .str "4", .str "02", .str "8", .str "3", .str "0", .str "", .str "1099511627776", .str "2199023255552"] : List V), Tx 20 v := by
  intro v hv
  simp only [List.mem_cons, List.not_mem_nil, or_false] at hv
  rcases hv with rfl | rfl | rfl | rfl | rfl | rfl | rfl | rfl | rfl | rfl
  all_goals exact tx_of (by decide +kernel)
theorem pure_law_joined {K : PySem.W.Frag} (vs : List V) (H : Hp) (Q : VK) (E : XK) (h : sp_law_joined K vs H Q E) : t_law_joined K E { nx := fun _ H' => Q .non H', rt := Q } (start N_law_joined vs) H := by
  obtain ⟨a, ds, c, rfl, hS, h5, q⟩ := h
  obtain ⟨d1, a1⟩ := int_atJ (ds := ds) (k := 1) (by omega)
  obtain ⟨d2, a2⟩ := int_atJ (ds := ds) (k := 2) (by omega)
  obtain ⟨d3, a3⟩ := int_atJ (ds := ds) (k := 3) (by omega)
  obtain ⟨d4, a4⟩ := int_atJ (ds := ds) (k := 4) (by omega)
  have e47 : (("/" : Str)) = S [47] := slash_S
  unfold t_law_joined
  rw [e47]
  repeat walk_at "mst"
  refine ⟨by show 5 ≤ sizeLine; decide, fun p1 n1 => ?_⟩
  have h1 := all5
  generalize hL1 : ([.str "", .str "-", .str "+", .str "--", .str "-"] : List V) = L1 at *
  have l1 : L1.length = 5 := by rw [← hL1]; rfl
  have x1 := Evl.Ex.new (o := HO.lst L1) n1
  have s1 : (upd H p1 (HO.lst L1)) p1 = some (HO.lst L1) := upd_same
  generalize (upd H p1 (HO.lst L1)) = H1 at *
  have hS1 := Evl.ex_l x1 hS
  repeat walk_at "mst"
  refine k_ixL hS1 a1 ?_
  repeat walk_at "mst"
  obtain ⟨v, av, w1, rfl, tv⟩ := at_txJ (n := 20) (N := 5) (i := d1 % 5) l1 h1 (by omega) (by omega)
  refine k_ixL (k_sq s1) av ?_
  repeat walk_at "mst"
  have hr := Int.emod_nonneg c (by decide : (100000000000000 : Int) ≠ 0)
  have hr2 := Int.emod_lt_of_pos c (by decide : (0 : Int) < 100000000000000)
  refine k_strI ⟨by omega, by omega⟩ ?_
  have li : (intL (c % 100000000000000)).length ≤ 16 := by
    have z := numL_small (n := (c % 100000000000000).natAbs) (k := 15) (by decide) (by omega)
    unfold intL
    split
    · rw [List.length_cons]; omega
    · omega
  repeat walk_at "mst"
  refine k_ixL hS1 a2 ?_
  repeat walk_at "mst"
  refine k_slS (l := intL (c % 100000000000000)) (by omega) fun m1 hm1 => ?_
  refine k_catS (by omega) ?_
  have lw : (w1 ++ m1).length ≤ 36 := by rw [List.length_append]; omega
  generalize w1 ++ m1 = w at *
  repeat walk_at "mst"
  refine k_cut (fun σ' H' => Ex H H' ∧ ∃ m : List Nat, m.length ≤ 100 ∧ σ' = [some (.ref a), some (.int c), some (.str (S m))]) ?_ ?_
  · repeat walk_at "mst"
    refine k_ixL hS1 a3 ?_
    repeat walk_at "mst"
    refine k_iteD (fun _ => ?_) (fun _ => ?_)
    · repeat walk_at "mst"
      refine k_catS (by simp; omega) ?_
      repeat walk_at "mst"
      refine ⟨by show 10 ≤ sizeLine; decide, fun p2 n2 => ?_⟩
      have h2 := all10
      generalize hL2 : ([.str "1", .str "2", .str "4", .str "02", .str "8", .str "3", .str "0", .str "", .str "1099511627776", .str "2199023255552"] : List V) = L2 at *
      have l2 : L2.length = 10 := by rw [← hL2]; rfl
      have x2 := Evl.Ex.new (o := HO.lst L2) n2
      repeat walk_at "mst"
      refine k_ixL (Evl.ex_l x2 hS1) a4 ?_
      repeat walk_at "mst"
      obtain ⟨v2, av2, w2, rfl, tv2⟩ := at_txJ (n := 20) (N := 10) (i := d4 % 10) l2 h2 (by omega) (by omega)
      refine k_ixL (k_sq upd_same) av2 ?_
      refine k_catS (by simp; omega) ?_
      repeat walk_at "mst"
      exact ⟨x1.trans x2, _, by simp; omega, rfl⟩
    · repeat walk_at "mst"
      exact ⟨x1, w, by omega, rfl⟩
  · rintro σ' H' ⟨e, m, hm, rfl⟩
    repeat walk_at "mst"
    exact q _ _ e ⟨m, rfl, hm⟩
theorem use_joined {K : PySem.W.Frag} {H : Hp} {Q : VK} {E : XK} {a : Addr} {ds : List Int} {c : Int} (hS : SqL K H a (ds.map V.int)) (h : 5 ≤ ds.length) (q : ∀ v H', Ex H H' → Tx 100 v → Q v H') : sp_law_joined K ([.ref a, .int c] ++ []) H Q E := ⟨a, ds, c, rfl, hS, h, q⟩
open SX (S)
def sp_law_is_digits (K : PySem.W.Frag) : Sp := fun vs H Q _ => ∃ l : List Nat, vs = [.str (S l)] ∧ Q (.bl (decide (DigsB l))) H
local macro_rules | `(tactic| walk_at "mst") => `(tactic| first
  | with_reducible refine k_isiSS ?_
  | with_reducible refine k_typS ?_
  | with_reducible refine k_NT ?_
  | with_reducible refine k_tys ?_
  | with_reducible refine k_eqS ?_
  | with_reducible refine k_neS ?_
  | with_reducible refine k_inS ?_
  | with_reducible refine k_truS ?_)
abbrev N_law_is_digits : List Str := ["word", "char"]
def t_law_is_digits (K : PySem.W.Frag) (E : XK) : TS := (tSeq (tFor (iStr (tVar 0)) (gName 1) (tIfS (tTest (tOp rNotInS (tVar 1) (tC (.str "0123456789")))) (tRet (tC (.bl false))) tNext)) (tRet (tOp rNe (tVar 0) (tC (.str "")))))
theorem len_law_is_digits {K : PySem.W.Frag} {vs : List V} {H : Hp} {Q : VK} {E : XK} (h : sp_law_is_digits K vs H Q E) : vs.length = 1 := by
  obtain ⟨_, rfl, _⟩ := h; rfl
theorem k_notInS {c : Nat} {b : List Nat} {H : Hp} {Q : VK} (q : Q (.bl (!decide (c ∈ b))) H) : rNotInS (.str ⟨#[c]⟩) (.str (S b)) H Q := ⟨c, S b, rfl, rfl, q⟩
theorem for_txt {l : List Nat} {g : TG} {tb : TS} {D : Ends} {σ : L2.St} {H : Hp} (Pv : Nat → L2.St → Hp → Prop) (h0 : Pv 0 σ H)
    (hs : ∀ i c σ' H', l[i]? = some c → Pv i σ' H' → g (.str ⟨#[c]⟩) σ' H' fun σ2 H2 => tb { D with nx := Pv (i + 1), ct := Pv (i + 1), bk := D.nx } σ2 H2)
    (hd : ∀ σ' H', Pv l.length σ' H' → D.nx σ' H') : forK g tb D σ (Its (S l)) H := by
  refine ⟨fun i m σ H => i ≤ l.length ∧ m = l.length - i ∧ Pv i σ H, ⟨l.length, Nat.zero_le _, by omega, h0⟩, ?_⟩
  rintro i m σ H ⟨hi, rfl, p⟩
  rcases Nat.lt_or_ge i l.length with h | h
  · refine Or.inr ⟨by show i < (S l).cps.size; simpa using h, Pv (i + 1), fun σ' H' p' => ⟨l.length - (i + 1), by omega, by omega, rfl, p'⟩, ?_⟩
    rintro x H' ⟨rfl, c, hc, rfl⟩
    exact hs i c _ _ (by simpa using hc) p
  · have e : i = l.length := by omega
    subst e
    exact Or.inl ⟨by show (S l).cps.size ≤ l.length; simp, hd σ H p⟩
theorem pure_law_is_digits {K : PySem.W.Frag} (vs : List V) (H : Hp) (Q : VK) (E : XK) (h : sp_law_is_digits K vs H Q E) : t_law_is_digits K E { nx := fun _ H' => Q .non H', rt := Q } (start N_law_is_digits vs) H := by
  obtain ⟨l, rfl, q⟩ := h
  unfold t_law_is_digits
  rw [digits_S, empty_S]
  repeat walk_at "mst"
  refine ⟨_, rfl, S l, rfl, for_txt (l := l) (fun i σ H' => H' = H ∧ (∀ c ∈ l.take i, 48 ≤ c ∧ c ≤ 57) ∧ ∃ v, σ = [some (.str (S l)), v]) ⟨rfl, by simp, none, rfl⟩ ?_ ?_⟩
  · rintro i c σ H' hi ⟨rfl, hd, v, rfl⟩
    repeat walk_at "mst"
    refine k_notInS ?_
    repeat walk_at "mst"
    refine k_iteN (fun hn => ?_) (fun hy => ?_)
    · repeat walk_at "mst"
      have e : decide (DigsB l) = false := decide_eq_false fun h => hn (by have := h.2 c (List.mem_of_getElem? hi); simp; omega)
      rw [e] at q
      exact q
    · repeat walk_at "mst"
      refine ⟨rfl, fun c' h' => ?_, _, rfl⟩
      rw [List.take_succ, hi] at h'
      rcases List.mem_append.mp h' with h' | h'
      · exact hd c' h'
      · have e : c' = c := by simpa using h'
        subst e
        simp at hy
        omega
  · rintro σ H' ⟨rfl, hd, v, rfl⟩
    rw [List.take_length] at hd
    repeat walk_at "mst"
    have e : (!decide (l = [])) = decide (DigsB l) := by
      by_cases h : l = []
      · rw [decide_eq_true h, decide_eq_false (p := DigsB l) fun g => g.1 h]; rfl
      · rw [decide_eq_false h, decide_eq_true (p := DigsB l) ⟨h, hd⟩]; rfl
    rw [e]
    exact q
theorem use_ldigs {K : PySem.W.Frag} {H : Hp} {Q : VK} {E : XK} {l : List Nat} (q : Q (.bl (decide (DigsB l))) H) : sp_law_is_digits K ([.str (S l)] ++ []) H Q E := ⟨l, rfl, q⟩
open SX (S)
/-- the law's reading of a thing: None where it is no text of a number, else a pair whose plain form has the text -/
def Due (K : PySem.W.Frag) (H : Hp) (x v : V) : Prop := (v = .non ∧ ∀ l t p, x = .str (S l) → ¬ Good l t p) ∨ ∃ (z : Addr) (l : List Nat) (a b : Int), v = .ref z ∧ x = .str (S l) ∧ H z = some (.tup [.int a, .int b]) ∧ okTop a b ∧ Good l (plainZ a b.toNat).1 (plainZ a b.toNat).2
def sp_law_reading (K : PySem.W.Frag) : Sp := fun vs H Q _ => ∃ (x : V), vs = [x] ∧ Knd K H x ∧ (∀ l, x = .str (S l) → l.length ≤ 500) ∧ ∀ v H', Ex H H' → Due K H' x v → Q v H'
local macro_rules | `(tactic| walk_at "mst") => `(tactic| first
  | with_reducible refine k_isiSS ?_
  | with_reducible refine k_typS ?_
  | with_reducible refine k_NT ?_
  | with_reducible refine k_tys ?_
  | with_reducible refine k_eqS ?_
  | with_reducible refine k_neS ?_
  | with_reducible refine k_inS ?_
  | with_reducible refine k_truS ?_)
local macro_rules | `(tactic| walk_at "mst") => `(tactic| first
  | with_reducible refine k_tsl ?_
  | with_reducible refine k_part ?_
  | with_reducible refine k_nopart ?_
  | with_reducible refine k_exi ?_)
abbrev N_law_reading : List Str := ["text", "body", "words", "top", "powers", "k"]
def t_law_reading (K : PySem.W.Frag) (E : XK) : TS := (tSeq (tIfS (tOr (tNot (tB (tCB (rIsi K) (tCons (tVar 0) (tCons (tC (.ty "str")) tNil))))) (tOr (tTest (tOp rEq (tVar 0) (tC (.str "")))) (tTest (tOp rGtI (tCB rLenS (tCons (tVar 0) tNil)) (tC (.int 40)))))) (tRet (tC .non)) tNext) (tSeq (tAsg (tIf (tTest (tOp rEq (tOp rIxS (tVar 0) (tC (.int 0))) (tC (.str "-")))) (tSl rSlS (tVar 0) (tPart (tC (.int 1))) tNoPart) (tVar 0)) (gName 1)) (tSeq (tAsg (tBM K "str" rSplitS (tVar 1) (tCons (tC (.str "/")) tNil)) (gName 2)) (tSeq (tIfS (tOr (tTest (tOp rGtI (tCB (rLenQ K) (tCons (tVar 2) tNil)) (tC (.int 2)))) (tOr (tNot (tB (tCall (sp_law_is_digits K) [] E0 (tCons (tOp (rIxL K) (tVar 2) (tC (.int 0))) tNil)))) (tNot (tB (tCall (sp_law_is_digits K) [] E0 (tCons (tOp (rIxL K) (tVar 2) (tUn rNegI (tC (.int 1)))) tNil)))))) (tRet (tC .non)) tNext) (tSeq (tAsg (tIf (tTest (tOp rNe (tOp rIxS (tVar 0) (tC (.int 0))) (tC (.str "-")))) (tCB rIntS (tCons (tOp (rIxL K) (tVar 2) (tC (.int 0))) tNil)) (tUn rNegI (tCB rIntS (tCons (tOp (rIxL K) (tVar 2) (tC (.int 0))) tNil)))) (gName 3)) (tSeq (tAsg (tLc (iRng1 (tCons (tC (.int 41)) tNil)) (gName 5) (tOr (tAnd (tTest (tOp rEq (tCB (rLenQ K) (tCons (tVar 2) tNil)) (tC (.int 1)))) (tTest (tOp rEq (tVar 5) (tC (.int 0))))) (tAnd (tTest (tOp rEq (tCB (rLenQ K) (tCons (tVar 2) tNil)) (tC (.int 2)))) (tTest (tOp rEq (tCB rStrI (tCons (tOp rShlI (tC (.int 1)) (tVar 5)) tNil)) (tOp (rIxL K) (tVar 2) (tC (.int 1))))))) (tVar 5) [5]) (gName 4)) (tSeq (tIfS (tOr (tTest (tOp rEq (tCB (rLenQ K) (tCons (tVar 4) tNil)) (tC (.int 0)))) (tOr (tTest (tOp rGtI (tCB rAbsI (tCons (tVar 3) tNil)) (tOp rPowI (tC (.int 10)) (tC (.int 12))))) (tTest (tOp rNe (tCall (sp_law_text K) [] E0 (tCons (tVar 3) (tCons (tOp (rIxL K) (tVar 4) (tC (.int 0))) tNil))) (tVar 0))))) (tRet (tC .non)) tNext) (tRet (tTup (tCons (tVar 3) (tCons (tOp (rIxL K) (tVar 4) (tC (.int 0))) tNil)))))))))))
theorem len_law_reading {K : PySem.W.Frag} {vs : List V} {H : Hp} {Q : VK} {E : XK} (h : sp_law_reading K vs H Q E) : vs.length = 1 := by
  obtain ⟨_, rfl, _⟩ := h; rfl
theorem txt_ne {t p : Int} : txtL t p ≠ [] := by
  unfold txtL
  split
  · exact intL_ne t
  · exact fun e => intL_ne t (List.append_eq_nil_iff.mp e).1
theorem head_is {l : List Nat} {c : Nat} (h : l[(0 : Int).toNat]? = some c) : l.head? = some c := by
  rw [List.head?_eq_getElem?]; exact h
theorem k_split {d : List Nat} (hd : d.length ≤ 500) {H : Hp} {Q : VK} (q : ∀ p, H p = none → Q (.ref p) (upd H p (.lst (((TL.spl [47] 0 [] d).map S).map V.str)))) : rSplitS (.str (S d)) [.str (S [47])] H Q :=
  ⟨S d, S [47], rfl, rfl, rfl, by rw [SX.S_len]; exact line_ok (by omega), by rw [SX.split_S (by simp) (by decide)]; exact q⟩
theorem good_words {l d : List Nat} {t p : Int} (hd : (if l.head? = some 45 then l.drop 1 else l) = d) (g : Good l t p) : d = if p = 0 then TL.numL t.natAbs else TL.numL t.natAbs ++ 47 :: TL.numL (2 ^ p.toNat) := by
  rw [← hd, g.2.2]; exact body_txt
/-- what is known of the words if the text is a number's -/
structure Wds (l w0 w1 : List Nat) (f : Nat → Bool) : Prop where
  good : ∀ t p, Good l t p → w0 = TL.numL t.natAbs ∧ DigsB w1 ∧ ∀ k, f k = true ↔ (k : Int) = p
theorem split_one {a b a' b' : List Nat} (h1 : 47 ∉ a) (h2 : 47 ∉ a') (e : a ++ 47 :: b = a' ++ 47 :: b') : a = a' ∧ b = b' := by
  have z : TL.spl [47] 0 [] (a ++ 47 :: b) = TL.spl [47] 0 [] (a' ++ 47 :: b') := by rw [e]
  have two : ∀ a b : List Nat, 47 ∉ a → TL.spl [47] 0 [] (a ++ 47 :: b) = a :: TL.spl [47] 0 [] b := fun a b h => TL.spl_part1 (S := []) (acc := []) h
  rw [two a b h1, two a' b' h2] at z
  have ea : a = a' := (List.cons.inj z).1
  subst ea
  exact ⟨rfl, (List.cons.inj (List.append_cancel_left e)).2⟩
theorem wds_one {l d : List Nat} (hd : (if l.head? = some 45 then l.drop 1 else l) = d) (h : 47 ∉ d) : Wds l d d (fun k => decide (k = 0)) := ⟨fun t p g => by
  have e := good_words hd g
  have p0 := g.1.2.1
  by_cases hp : p = 0
  · rw [if_pos hp] at e
    refine ⟨e, by rw [e]; exact digs_num _, fun k => ?_⟩
    rw [decide_eq_true_eq]
    omega
  · rw [if_neg hp] at e
    exact absurd (by rw [e]; simp) h⟩
theorem wds_two {l a b : List Nat} (hd : (if l.head? = some 45 then l.drop 1 else l) = a ++ 47 :: b) (ha : 47 ∉ a) : Wds l a b (fun k => decide (TL.numL (2 ^ k) = b)) := ⟨fun t p g => by
  have e := good_words hd g
  have p0 := g.1.2.1
  by_cases hp : p = 0
  · rw [if_pos hp] at e
    exact absurd (by rw [← e]; simp) (num47 t.natAbs)
  · rw [if_neg hp] at e
    obtain ⟨e1, e2⟩ := split_one ha (num47 _) e
    refine ⟨e1, by rw [e2]; exact digs_num _, fun k => ?_⟩
    rw [decide_eq_true_eq, e2]
    constructor
    · intro z
      have := pw_one z
      omega
    · rintro rfl
      rw [Int.toNat_natCast]⟩
theorem no_wds {l d : List Nat} (hd : (if l.head? = some 45 then l.drop 1 else l) = d) (h : ∀ a b, 47 ∉ a → 47 ∉ b → d ≠ a ++ 47 :: b ∧ d ≠ a) {t p : Int} : ¬ Good l t p := fun g => by
  have e := good_words hd g
  by_cases hp : p = 0
  · rw [if_pos hp] at e
    exact (h _ _ (num47 t.natAbs) (num47 t.natAbs)).2 e
  · rw [if_neg hp] at e
    exact (h _ _ (num47 _) (num47 _)).1 e
theorem sign_is {l : List Nat} {t p : Int} (g : Good l t p) : l.head? = some 45 ↔ t < 0 := by
  have hn : (TL.numL t.natAbs).head? ≠ some 45 := fun e => TL.numL_free (n := t.natAbs) (s := 45) (Or.inl (by decide)) (List.mem_of_head? e)
  rw [g.2.2]
  unfold txtL intL
  by_cases ht : t < 0
  · rw [if_pos ht]
    split <;> simp [ht]
  · rw [if_neg ht]
    refine ⟨fun e => ?_, fun z => absurd z ht⟩
    split at e
    · exact absurd e hn
    · cases hq : TL.numL t.natAbs with
      | nil => exact absurd hq (TL.numL_ne _)
      | cons c r => rw [hq] at e hn; exact absurd e hn
theorem top_is {l w0 w1 : List Nat} {f : Nat → Bool} {t p n top : Int} (W : Wds l w0 w1 f) (hn : intText? (S w0) = some n) (ht : (l.head? = some 45 ∧ top = -n) ∨ (¬ l.head? = some 45 ∧ top = n)) (g : Good l t p) : top = t := by
  have e := (W.good t p g).1
  have ok := g.1.1
  have hl := numL_small (n := t.natAbs) (k := 13) (by decide) (by omega)
  rw [e, ← SX.num_S, TL.int_num (by omega)] at hn
  injection hn with hn
  rw [sign_is g] at ht
  omega
theorem pair_good {l : List Nat} {a : Int} {k : Nat} (ok : okTop a k) (e : txtL (plainZ a k).1 (plainZ a k).2 = l) : Good l (plainZ a k).1 (plainZ a k).2 :=
  ⟨okTop_pl (b := (k : Int)) ok, plainZ_plain a k, e.symm⟩
theorem at_head {x : Int} {xs : List Int} : atI ((x :: xs).map V.int) 0 = some (V.int x) := atI_nat (j := 0) rfl
theorem kept_head {n : Nat} {f : Nat → Bool} (h : MineL.kept n f ≠ []) : ∃ (k : Nat) (ks : List Int), MineL.kept n f = (k : Int) :: ks ∧ f k = true ∧ k < n := by
  cases e : MineL.kept n f with
  | nil => exact absurd e h
  | cons x xs =>
    obtain ⟨k, rfl, h1, h2⟩ := MineL.mem_kept.mp (show x ∈ MineL.kept n f by rw [e]; exact List.mem_cons_self)
    exact ⟨k, xs, rfl, h2, h1⟩
theorem if_t {A B : Prop} {b : Bool} (h : b = true) (q : A) : if b = true then A else B := by rw [if_pos h]; exact q
theorem if_f {A B : Prop} {b : Bool} (h : b = false) (q : B) : if b = true then A else B := by rw [if_neg (by rw [h]; decide)]; exact q
theorem pure_law_reading {K : PySem.W.Frag} (vs : List V) (H : Hp) (Q : VK) (E : XK) (h : sp_law_reading K vs H Q E) : t_law_reading K E { nx := fun _ H' => Q .non H', rt := Q } (start N_law_reading vs) H := by
  obtain ⟨x, rfl, kd, hlen, q⟩ := h
  unfold t_law_reading
  rw [empty_S, minus_S, slash_S]
  repeat walk_at "mst"
  refine kd.isStr (fun l ex => ?_) (fun no => ?_)
  rotate_left
  · repeat walk_at "mst"
    exact q _ _ (Evl.Ex.refl _) (Or.inl ⟨rfl, fun l t p e => absurd e (no l)⟩)
  subst ex
  have hl := hlen l rfl
  have qn : ∀ H', Ex H H' → (∀ t p, ¬ Good l t p) → Q .non H' := fun H' e no => q _ _ e (Or.inl ⟨rfl, fun l' t p e' => by
    have := SX.S_inj (V.str.inj e')
    subst this
    exact no t p⟩)
  repeat walk_at "mst"
  refine k_iteD (fun he => ?_) (fun hne => ?_)
  · repeat walk_at "mst"
    exact qn _ (Evl.Ex.refl _) fun t p g => txt_ne (g.2.2.symm.trans he)
  repeat walk_at "mst"
  refine k_lenS (by omega) ?_
  repeat walk_at "mst"
  refine k_iteD (fun h40 => ?_) (fun h40 => ?_)
  · repeat walk_at "mst"
    refine qn _ (Evl.Ex.refl _) fun t p g => ?_
    have z := txt_len g.1
    rw [← g.2.2] at z
    omega
  have hl0 : 0 < l.length := List.length_pos_iff.mpr hne
  have hl40 : l.length ≤ 40 := by omega
  repeat walk_at "mst"
  refine k_ixS (i := 0) rfl (by omega) (by decide) (by omega) fun c hc => ?_
  have hh := head_is hc
  rw [one_S]
  repeat walk_at "mst"
  refine k_iteD (fun h45 => ?_) (fun h45 => ?_)
  · have ec : c = 45 := by simpa using h45
    repeat walk_at "mst"
    refine ⟨S l, rfl, by rw [SX.S_len]; exact line_ok (by omega), ?_⟩
    rw [C8.cutS_slice, SX.slice_from (i := 1) (by decide), show (1 : Int).toNat = 1 from rfl]
    have sg : l.head? = some 45 := by rw [hh, ec]
    have hne45 : ([c] = [45]) := by rw [ec]
    obtain ⟨d, hdd⟩ : ∃ d, d = l.drop 1 := ⟨_, rfl⟩
    rw [← hdd]
    have hd : (if l.head? = some 45 then l.drop 1 else l) = d := by rw [if_pos sg, hdd]
    have hdl : d.length ≤ 40 := by rw [hdd, List.length_drop]; omega
    repeat walk_at "mst"
    refine k_split (by omega) fun p1 n1 => ?_
    rcases words_gen d with ⟨h47, eW⟩ | ⟨a, b, ha, hb, ed, eW⟩ | ⟨h3, hno⟩
    · rw [eW]
      have W := wds_one hd h47
      have hw0 := hdl
      have sp1 : (upd H p1 (HO.lst [V.str (S d)])) p1 = some (HO.lst [V.str (S d)]) := upd_same
      have ep1 := Evl.Ex.new (o := HO.lst [V.str (S d)]) n1
      show gName 2 _ _ (upd H p1 (HO.lst [V.str (S d)])) _
      generalize upd H p1 (HO.lst [V.str (S d)]) = H1 at *
      repeat walk_at "mst"
      rw [if_neg (by simp)]
      repeat walk_at "mst"
      refine k_ixL (k_sq sp1) rfl ?_
      repeat walk_at "mst"
      refine use_ldigs ?_
      repeat walk_at "mst"
      refine k_iteN (fun hg0 => ?_) (fun hg0 => ?_)
      · repeat walk_at "mst"
        exact qn _ ep1 (fun t p g => hg0 (by rw [(W.good t p g).1]; exact digs_num _))
      obtain ⟨n, hn⟩ : ∃ n, intText? (S d) = some n := ⟨_, intText_digits (x := S d) hg0.2 hg0.1 (by rw [SX.S_len]; omega)⟩
      repeat walk_at "mst"
      refine k_ixL (k_sq sp1) rfl ?_
      repeat walk_at "mst"
      refine use_ldigs ?_
      repeat walk_at "mst"
      refine k_iteN (fun hg1 => ?_) (fun hg1 => ?_)
      · repeat walk_at "mst"
        exact qn _ ep1 (fun t p g => hg1 (W.good t p g).2.1)
      repeat walk_at "mst"
      refine k_ixS (i := 0) rfl (by omega) (by decide) (by omega) fun c' hc' => ?_
      have hc45 : c' = 45 ↔ l.head? = some 45 := by rw [head_is hc']; simp
      rw [one_S]
      repeat walk_at "mst"
      refine k_iteN (fun z => ?_) (fun z => ?_)
      · exfalso
        exact z (by rw [hc45.mpr sg])
      · repeat walk_at "mst"
        refine k_ixL (k_sq sp1) rfl ?_
        repeat walk_at "mst"
        refine k_intS hn (by omega) ?_
        repeat walk_at "mst"
        have ht : (l.head? = some 45 ∧ (-n) = -n) ∨ (¬ l.head? = some 45 ∧ (-n) = n) := by first | exact Or.inl ⟨sg, rfl⟩ | exact Or.inr ⟨sg, rfl⟩
        have tg : ∀ t p, Good l t p → (-n) = t := fun t p g => top_is W hn ht g
        generalize (-n) = top at *
        repeat walk_at "mst"
        refine MineL.k_lc ?_
        repeat walk_at "mst"
        refine ⟨41, rfl, by decide, by decide, MineL.lcR_rng (n := 41) (fun k => if (fun k => decide (k = 0)) k = true then some (V.int (k : Int)) else none) (by decide) (fun k hk => ?_) fun D H2 nD e2 hD => ?_⟩
        · refine MineL.turn_flt fun H' e R r => ?_
          have sp' := e _ _ sp1
          dsimp only at r
          repeat walk_at "mst"
          refine if_t rfl ?_
          repeat walk_at "mst"
          refine k_iteD (fun z => ?_) (fun z => ?_)
          · have z' : k = 0 := by first | exact z | simpa using z
            rw [decide_eq_true z'] at r
            repeat walk_at "mst"
            exact r
          · have z' : ¬ k = 0 := by first | exact z | simpa using z
            rw [decide_eq_false z'] at r
            repeat walk_at "mst"
            refine if_f rfl ?_
            repeat walk_at "mst"
            exact r
        rw [MineL.kept_map] at hD
        repeat walk_at "mst"
        refine k_iteD (fun z => ?_) (fun z => ?_)
        · repeat walk_at "mst"
          refine qn _ (ep1.trans e2) fun t p g => ?_
          have o := g.1.2
          have m := MineL.mem_kept (p := (fun k => decide (k = 0))) |>.mpr ⟨p.toNat, rfl, (show p.toNat < 41 by omega), ((W.good t p g).2.2 p.toNat).mpr (by omega)⟩
          have := List.length_pos_of_mem m
          rw [List.length_map] at z
          omega
        obtain ⟨k, ks, hks, kf, k41⟩ := kept_head (fun e => z (by rw [e]; rfl))
        rw [hks] at hD
        repeat walk_at "mst"
        refine k_iteD (fun z12 => ?_) (fun z12 => ?_)
        · repeat walk_at "mst"
          refine qn _ (ep1.trans e2) fun t p g => ?_
          have o := g.1.1
          have et := tg t p g
          split at z12 <;> omega
        have okT : okTop top (k : Int) := ⟨by split at z12 <;> omega, by omega⟩
        repeat walk_at "mst"
        refine k_ixL (k_sq hD) at_head ?_
        repeat walk_at "mst"
        refine use_ltext okT fun H3 e3 => ?_
        rw [Int.toNat_natCast]
        repeat walk_at "mst"
        refine k_iteN (fun zn => ?_) (fun zn => ?_)
        · repeat walk_at "mst"
          refine qn _ (ep1.trans (e2.trans e3)) fun t p g => zn ?_
          have et := tg t p g
          have ek := ((W.good t p g).2.2 k).mp kf
          have sp := slf_plain g.2.1 g.1.2.1
          rw [← ek, Int.toNat_natCast] at sp
          rw [et, sp, ek]
          exact g.2.2.symm
        repeat walk_at "mst"
        refine k_ixL (k_sq (e3 _ _ hD)) at_head ?_
        repeat walk_at "mst"
        refine ⟨two_le _ _, fun P hP => ?_⟩
        have eq : txtL (plainZ top k).1 (plainZ top k).2 = l := zn
        exact q _ _ ((ep1.trans (e2.trans e3)).trans (Evl.Ex.new hP)) (Or.inr ⟨P, l, top, (k : Int), rfl, rfl, upd_same, okT, by rw [Int.toNat_natCast]; exact pair_good okT eq⟩)
    · rw [eW]
      have W := wds_two (hd.trans ed) ha
      have hw0 : a.length ≤ 40 := by have z := congrArg List.length ed; rw [List.length_append, List.length_cons] at z; omega
      have sp1 : (upd H p1 (HO.lst [V.str (S a), V.str (S b)])) p1 = some (HO.lst [V.str (S a), V.str (S b)]) := upd_same
      have ep1 := Evl.Ex.new (o := HO.lst [V.str (S a), V.str (S b)]) n1
      show gName 2 _ _ (upd H p1 (HO.lst [V.str (S a), V.str (S b)])) _
      generalize upd H p1 (HO.lst [V.str (S a), V.str (S b)]) = H1 at *
      repeat walk_at "mst"
      rw [if_neg (by simp)]
      repeat walk_at "mst"
      refine k_ixL (k_sq sp1) rfl ?_
      repeat walk_at "mst"
      refine use_ldigs ?_
      repeat walk_at "mst"
      refine k_iteN (fun hg0 => ?_) (fun hg0 => ?_)
      · repeat walk_at "mst"
        exact qn _ ep1 (fun t p g => hg0 (by rw [(W.good t p g).1]; exact digs_num _))
      obtain ⟨n, hn⟩ : ∃ n, intText? (S a) = some n := ⟨_, intText_digits (x := S a) hg0.2 hg0.1 (by rw [SX.S_len]; omega)⟩
      repeat walk_at "mst"
      refine k_ixL (k_sq sp1) rfl ?_
      repeat walk_at "mst"
      refine use_ldigs ?_
      repeat walk_at "mst"
      refine k_iteN (fun hg1 => ?_) (fun hg1 => ?_)
      · repeat walk_at "mst"
        exact qn _ ep1 (fun t p g => hg1 (W.good t p g).2.1)
      repeat walk_at "mst"
      refine k_ixS (i := 0) rfl (by omega) (by decide) (by omega) fun c' hc' => ?_
      have hc45 : c' = 45 ↔ l.head? = some 45 := by rw [head_is hc']; simp
      rw [one_S]
      repeat walk_at "mst"
      refine k_iteN (fun z => ?_) (fun z => ?_)
      · exfalso
        exact z (by rw [hc45.mpr sg])
      · repeat walk_at "mst"
        refine k_ixL (k_sq sp1) rfl ?_
        repeat walk_at "mst"
        refine k_intS hn (by omega) ?_
        repeat walk_at "mst"
        have ht : (l.head? = some 45 ∧ (-n) = -n) ∨ (¬ l.head? = some 45 ∧ (-n) = n) := by first | exact Or.inl ⟨sg, rfl⟩ | exact Or.inr ⟨sg, rfl⟩
        have tg : ∀ t p, Good l t p → (-n) = t := fun t p g => top_is W hn ht g
        generalize (-n) = top at *
        repeat walk_at "mst"
        refine MineL.k_lc ?_
        repeat walk_at "mst"
        refine ⟨41, rfl, by decide, by decide, MineL.lcR_rng (n := 41) (fun k => if (fun k => decide (TL.numL (2 ^ k) = b)) k = true then some (V.int (k : Int)) else none) (by decide) (fun k hk => ?_) fun D H2 nD e2 hD => ?_⟩
        · refine MineL.turn_flt fun H' e R r => ?_
          have sp' := e _ _ sp1
          dsimp only at r
          repeat walk_at "mst"
          refine if_f rfl ?_
          repeat walk_at "mst"
          refine if_t rfl ?_
          repeat walk_at "mst"
          rename_i m hm1 hm2
          obtain ⟨c1, c2, c3⟩ := pw_ok (p := (k : Int)) ⟨by omega, by omega⟩
          rw [Int.one_mul] at c1
          rw [c1] at hm2
          subst hm2
          refine k_strI ⟨by omega, by omega⟩ ?_
          repeat walk_at "mst"
          refine k_ixL (k_sq sp') rfl ?_
          repeat walk_at "mst"
          have ei : intL ((2 ^ (k : Int).toNat : Nat) : Int) = TL.numL (2 ^ k) := by
            unfold intL
            rw [if_neg (by omega), Int.natAbs_natCast, Int.toNat_natCast]
          rw [ei]
          exact r
        rw [MineL.kept_map] at hD
        repeat walk_at "mst"
        refine k_iteD (fun z => ?_) (fun z => ?_)
        · repeat walk_at "mst"
          refine qn _ (ep1.trans e2) fun t p g => ?_
          have o := g.1.2
          have m := MineL.mem_kept (p := (fun k => decide (TL.numL (2 ^ k) = b))) |>.mpr ⟨p.toNat, rfl, (show p.toNat < 41 by omega), ((W.good t p g).2.2 p.toNat).mpr (by omega)⟩
          have := List.length_pos_of_mem m
          rw [List.length_map] at z
          omega
        obtain ⟨k, ks, hks, kf, k41⟩ := kept_head (fun e => z (by rw [e]; rfl))
        rw [hks] at hD
        repeat walk_at "mst"
        refine k_iteD (fun z12 => ?_) (fun z12 => ?_)
        · repeat walk_at "mst"
          refine qn _ (ep1.trans e2) fun t p g => ?_
          have o := g.1.1
          have et := tg t p g
          split at z12 <;> omega
        have okT : okTop top (k : Int) := ⟨by split at z12 <;> omega, by omega⟩
        repeat walk_at "mst"
        refine k_ixL (k_sq hD) at_head ?_
        repeat walk_at "mst"
        refine use_ltext okT fun H3 e3 => ?_
        rw [Int.toNat_natCast]
        repeat walk_at "mst"
        refine k_iteN (fun zn => ?_) (fun zn => ?_)
        · repeat walk_at "mst"
          refine qn _ (ep1.trans (e2.trans e3)) fun t p g => zn ?_
          have et := tg t p g
          have ek := ((W.good t p g).2.2 k).mp kf
          have sp := slf_plain g.2.1 g.1.2.1
          rw [← ek, Int.toNat_natCast] at sp
          rw [et, sp, ek]
          exact g.2.2.symm
        repeat walk_at "mst"
        refine k_ixL (k_sq (e3 _ _ hD)) at_head ?_
        repeat walk_at "mst"
        refine ⟨two_le _ _, fun P hP => ?_⟩
        have eq : txtL (plainZ top k).1 (plainZ top k).2 = l := zn
        exact q _ _ ((ep1.trans (e2.trans e3)).trans (Evl.Ex.new hP)) (Or.inr ⟨P, l, top, (k : Int), rfl, rfl, upd_same, okT, by rw [Int.toNat_natCast]; exact pair_good okT eq⟩)
    · have h3' : 3 ≤ (((TL.spl [47] 0 [] d).map S).map V.str).length := by rw [List.length_map, List.length_map]; exact h3
      generalize (((TL.spl [47] 0 [] d).map S).map V.str) = WL at *
      have sp1 : (upd H p1 (HO.lst WL)) p1 = some (HO.lst WL) := upd_same
      have ep1 := Evl.Ex.new (o := HO.lst WL) n1
      generalize (upd H p1 (HO.lst WL)) = H1 at *
      repeat walk_at "mst"
      rw [if_pos (decide_eq_true (by omega))]
      repeat walk_at "mst"
      exact qn _ ep1 fun t p => no_wds hd hno
  · have ec : ¬ c = 45 := by simpa using h45
    have hd : (if l.head? = some 45 then l.drop 1 else l) = l := by rw [if_neg (by rw [hh]; simpa using ec)]
    have sg : ¬ l.head? = some 45 := by rw [hh]; simpa using ec
    have hdl : l.length ≤ 40 := hl40
    repeat walk_at "mst"
    refine k_split (by omega) fun p1 n1 => ?_
    rcases words_gen l with ⟨h47, eW⟩ | ⟨a, b, ha, hb, ed, eW⟩ | ⟨h3, hno⟩
    · rw [eW]
      have W := wds_one hd h47
      have hw0 := hdl
      have sp1 : (upd H p1 (HO.lst [V.str (S l)])) p1 = some (HO.lst [V.str (S l)]) := upd_same
      have ep1 := Evl.Ex.new (o := HO.lst [V.str (S l)]) n1
      show gName 2 _ _ (upd H p1 (HO.lst [V.str (S l)])) _
      generalize upd H p1 (HO.lst [V.str (S l)]) = H1 at *
      repeat walk_at "mst"
      rw [if_neg (by simp)]
      repeat walk_at "mst"
      refine k_ixL (k_sq sp1) rfl ?_
      repeat walk_at "mst"
      refine use_ldigs ?_
      repeat walk_at "mst"
      refine k_iteN (fun hg0 => ?_) (fun hg0 => ?_)
      · repeat walk_at "mst"
        exact qn _ ep1 (fun t p g => hg0 (by rw [(W.good t p g).1]; exact digs_num _))
      obtain ⟨n, hn⟩ : ∃ n, intText? (S l) = some n := ⟨_, intText_digits (x := S l) hg0.2 hg0.1 (by rw [SX.S_len]; omega)⟩
      repeat walk_at "mst"
      refine k_ixL (k_sq sp1) rfl ?_
      repeat walk_at "mst"
      refine use_ldigs ?_
      repeat walk_at "mst"
      refine k_iteN (fun hg1 => ?_) (fun hg1 => ?_)
      · repeat walk_at "mst"
        exact qn _ ep1 (fun t p g => hg1 (W.good t p g).2.1)
      repeat walk_at "mst"
      refine k_ixS (i := 0) rfl (by omega) (by decide) (by omega) fun c' hc' => ?_
      have hc45 : c' = 45 ↔ l.head? = some 45 := by rw [head_is hc']; simp
      rw [one_S]
      repeat walk_at "mst"
      refine k_iteN (fun z => ?_) (fun z => ?_)
      · repeat walk_at "mst"
        refine k_ixL (k_sq sp1) rfl ?_
        repeat walk_at "mst"
        refine k_intS hn (by omega) ?_
        repeat walk_at "mst"
        have ht : (l.head? = some 45 ∧ n = -n) ∨ (¬ l.head? = some 45 ∧ n = n) := by first | exact Or.inl ⟨sg, rfl⟩ | exact Or.inr ⟨sg, rfl⟩
        have tg : ∀ t p, Good l t p → n = t := fun t p g => top_is W hn ht g
        generalize n = top at *
        repeat walk_at "mst"
        refine MineL.k_lc ?_
        repeat walk_at "mst"
        refine ⟨41, rfl, by decide, by decide, MineL.lcR_rng (n := 41) (fun k => if (fun k => decide (k = 0)) k = true then some (V.int (k : Int)) else none) (by decide) (fun k hk => ?_) fun D H2 nD e2 hD => ?_⟩
        · refine MineL.turn_flt fun H' e R r => ?_
          have sp' := e _ _ sp1
          dsimp only at r
          repeat walk_at "mst"
          refine if_t rfl ?_
          repeat walk_at "mst"
          refine k_iteD (fun z => ?_) (fun z => ?_)
          · have z' : k = 0 := by first | exact z | simpa using z
            rw [decide_eq_true z'] at r
            repeat walk_at "mst"
            exact r
          · have z' : ¬ k = 0 := by first | exact z | simpa using z
            rw [decide_eq_false z'] at r
            repeat walk_at "mst"
            refine if_f rfl ?_
            repeat walk_at "mst"
            exact r
        rw [MineL.kept_map] at hD
        repeat walk_at "mst"
        refine k_iteD (fun z => ?_) (fun z => ?_)
        · repeat walk_at "mst"
          refine qn _ (ep1.trans e2) fun t p g => ?_
          have o := g.1.2
          have m := MineL.mem_kept (p := (fun k => decide (k = 0))) |>.mpr ⟨p.toNat, rfl, (show p.toNat < 41 by omega), ((W.good t p g).2.2 p.toNat).mpr (by omega)⟩
          have := List.length_pos_of_mem m
          rw [List.length_map] at z
          omega
        obtain ⟨k, ks, hks, kf, k41⟩ := kept_head (fun e => z (by rw [e]; rfl))
        rw [hks] at hD
        repeat walk_at "mst"
        refine k_iteD (fun z12 => ?_) (fun z12 => ?_)
        · repeat walk_at "mst"
          refine qn _ (ep1.trans e2) fun t p g => ?_
          have o := g.1.1
          have et := tg t p g
          split at z12 <;> omega
        have okT : okTop top (k : Int) := ⟨by split at z12 <;> omega, by omega⟩
        repeat walk_at "mst"
        refine k_ixL (k_sq hD) at_head ?_
        repeat walk_at "mst"
        refine use_ltext okT fun H3 e3 => ?_
        rw [Int.toNat_natCast]
        repeat walk_at "mst"
        refine k_iteN (fun zn => ?_) (fun zn => ?_)
        · repeat walk_at "mst"
          refine qn _ (ep1.trans (e2.trans e3)) fun t p g => zn ?_
          have et := tg t p g
          have ek := ((W.good t p g).2.2 k).mp kf
          have sp := slf_plain g.2.1 g.1.2.1
          rw [← ek, Int.toNat_natCast] at sp
          rw [et, sp, ek]
          exact g.2.2.symm
        repeat walk_at "mst"
        refine k_ixL (k_sq (e3 _ _ hD)) at_head ?_
        repeat walk_at "mst"
        refine ⟨two_le _ _, fun P hP => ?_⟩
        have eq : txtL (plainZ top k).1 (plainZ top k).2 = l := zn
        exact q _ _ ((ep1.trans (e2.trans e3)).trans (Evl.Ex.new hP)) (Or.inr ⟨P, l, top, (k : Int), rfl, rfl, upd_same, okT, by rw [Int.toNat_natCast]; exact pair_good okT eq⟩)
      · exfalso
        exact sg (hc45.mp (by simpa using z))
    · rw [eW]
      have W := wds_two (hd.trans ed) ha
      have hw0 : a.length ≤ 40 := by have z := congrArg List.length ed; rw [List.length_append, List.length_cons] at z; omega
      have sp1 : (upd H p1 (HO.lst [V.str (S a), V.str (S b)])) p1 = some (HO.lst [V.str (S a), V.str (S b)]) := upd_same
      have ep1 := Evl.Ex.new (o := HO.lst [V.str (S a), V.str (S b)]) n1
      show gName 2 _ _ (upd H p1 (HO.lst [V.str (S a), V.str (S b)])) _
      generalize upd H p1 (HO.lst [V.str (S a), V.str (S b)]) = H1 at *
      repeat walk_at "mst"
      rw [if_neg (by simp)]
      repeat walk_at "mst"
      refine k_ixL (k_sq sp1) rfl ?_
      repeat walk_at "mst"
      refine use_ldigs ?_
      repeat walk_at "mst"
      refine k_iteN (fun hg0 => ?_) (fun hg0 => ?_)
      · repeat walk_at "mst"
        exact qn _ ep1 (fun t p g => hg0 (by rw [(W.good t p g).1]; exact digs_num _))
      obtain ⟨n, hn⟩ : ∃ n, intText? (S a) = some n := ⟨_, intText_digits (x := S a) hg0.2 hg0.1 (by rw [SX.S_len]; omega)⟩
      repeat walk_at "mst"
      refine k_ixL (k_sq sp1) rfl ?_
      repeat walk_at "mst"
      refine use_ldigs ?_
      repeat walk_at "mst"
      refine k_iteN (fun hg1 => ?_) (fun hg1 => ?_)
      · repeat walk_at "mst"
        exact qn _ ep1 (fun t p g => hg1 (W.good t p g).2.1)
      repeat walk_at "mst"
      refine k_ixS (i := 0) rfl (by omega) (by decide) (by omega) fun c' hc' => ?_
      have hc45 : c' = 45 ↔ l.head? = some 45 := by rw [head_is hc']; simp
      rw [one_S]
      repeat walk_at "mst"
      refine k_iteN (fun z => ?_) (fun z => ?_)
      · repeat walk_at "mst"
        refine k_ixL (k_sq sp1) rfl ?_
        repeat walk_at "mst"
        refine k_intS hn (by omega) ?_
        repeat walk_at "mst"
        have ht : (l.head? = some 45 ∧ n = -n) ∨ (¬ l.head? = some 45 ∧ n = n) := by first | exact Or.inl ⟨sg, rfl⟩ | exact Or.inr ⟨sg, rfl⟩
        have tg : ∀ t p, Good l t p → n = t := fun t p g => top_is W hn ht g
        generalize n = top at *
        repeat walk_at "mst"
        refine MineL.k_lc ?_
        repeat walk_at "mst"
        refine ⟨41, rfl, by decide, by decide, MineL.lcR_rng (n := 41) (fun k => if (fun k => decide (TL.numL (2 ^ k) = b)) k = true then some (V.int (k : Int)) else none) (by decide) (fun k hk => ?_) fun D H2 nD e2 hD => ?_⟩
        · refine MineL.turn_flt fun H' e R r => ?_
          have sp' := e _ _ sp1
          dsimp only at r
          repeat walk_at "mst"
          refine if_f rfl ?_
          repeat walk_at "mst"
          refine if_t rfl ?_
          repeat walk_at "mst"
          rename_i m hm1 hm2
          obtain ⟨c1, c2, c3⟩ := pw_ok (p := (k : Int)) ⟨by omega, by omega⟩
          rw [Int.one_mul] at c1
          rw [c1] at hm2
          subst hm2
          refine k_strI ⟨by omega, by omega⟩ ?_
          repeat walk_at "mst"
          refine k_ixL (k_sq sp') rfl ?_
          repeat walk_at "mst"
          have ei : intL ((2 ^ (k : Int).toNat : Nat) : Int) = TL.numL (2 ^ k) := by
            unfold intL
            rw [if_neg (by omega), Int.natAbs_natCast, Int.toNat_natCast]
          rw [ei]
          exact r
        rw [MineL.kept_map] at hD
        repeat walk_at "mst"
        refine k_iteD (fun z => ?_) (fun z => ?_)
        · repeat walk_at "mst"
          refine qn _ (ep1.trans e2) fun t p g => ?_
          have o := g.1.2
          have m := MineL.mem_kept (p := (fun k => decide (TL.numL (2 ^ k) = b))) |>.mpr ⟨p.toNat, rfl, (show p.toNat < 41 by omega), ((W.good t p g).2.2 p.toNat).mpr (by omega)⟩
          have := List.length_pos_of_mem m
          rw [List.length_map] at z
          omega
        obtain ⟨k, ks, hks, kf, k41⟩ := kept_head (fun e => z (by rw [e]; rfl))
        rw [hks] at hD
        repeat walk_at "mst"
        refine k_iteD (fun z12 => ?_) (fun z12 => ?_)
        · repeat walk_at "mst"
          refine qn _ (ep1.trans e2) fun t p g => ?_
          have o := g.1.1
          have et := tg t p g
          split at z12 <;> omega
        have okT : okTop top (k : Int) := ⟨by split at z12 <;> omega, by omega⟩
        repeat walk_at "mst"
        refine k_ixL (k_sq hD) at_head ?_
        repeat walk_at "mst"
        refine use_ltext okT fun H3 e3 => ?_
        rw [Int.toNat_natCast]
        repeat walk_at "mst"
        refine k_iteN (fun zn => ?_) (fun zn => ?_)
        · repeat walk_at "mst"
          refine qn _ (ep1.trans (e2.trans e3)) fun t p g => zn ?_
          have et := tg t p g
          have ek := ((W.good t p g).2.2 k).mp kf
          have sp := slf_plain g.2.1 g.1.2.1
          rw [← ek, Int.toNat_natCast] at sp
          rw [et, sp, ek]
          exact g.2.2.symm
        repeat walk_at "mst"
        refine k_ixL (k_sq (e3 _ _ hD)) at_head ?_
        repeat walk_at "mst"
        refine ⟨two_le _ _, fun P hP => ?_⟩
        have eq : txtL (plainZ top k).1 (plainZ top k).2 = l := zn
        exact q _ _ ((ep1.trans (e2.trans e3)).trans (Evl.Ex.new hP)) (Or.inr ⟨P, l, top, (k : Int), rfl, rfl, upd_same, okT, by rw [Int.toNat_natCast]; exact pair_good okT eq⟩)
      · exfalso
        exact sg (hc45.mp (by simpa using z))
    · have h3' : 3 ≤ (((TL.spl [47] 0 [] l).map S).map V.str).length := by rw [List.length_map, List.length_map]; exact h3
      generalize (((TL.spl [47] 0 [] l).map S).map V.str) = WL at *
      have sp1 : (upd H p1 (HO.lst WL)) p1 = some (HO.lst WL) := upd_same
      have ep1 := Evl.Ex.new (o := HO.lst WL) n1
      generalize (upd H p1 (HO.lst WL)) = H1 at *
      repeat walk_at "mst"
      rw [if_pos (decide_eq_true (by omega))]
      repeat walk_at "mst"
      exact qn _ ep1 fun t p => no_wds hd hno
open SX (S)
def sp_are_digits (K : PySem.W.Frag) : Sp := fun vs H Q _ => ∃ l : List Nat, vs = [.str (S l)] ∧ l.length ≤ 500 ∧ ∀ H', Ex H H' → Q (.bl (decide (DigsB l))) H'
local macro_rules | `(tactic| walk_at "mst") => `(tactic| first
  | with_reducible refine k_isiSS ?_
  | with_reducible refine k_typS ?_
  | with_reducible refine k_NT ?_
  | with_reducible refine k_tys ?_
  | with_reducible refine k_eqS ?_
  | with_reducible refine k_neS ?_
  | with_reducible refine k_inS ?_
  | with_reducible refine k_truS ?_)
abbrev N_are_digits : List Str := ["text", "sign"]
def t_are_digits (K : PySem.W.Frag) (E : XK) : TS := (tRet (tAndV (tOp rNe (tVar 0) (tC (.str ""))) (tCB (rAll K) (tCons (tLc (iStr (tVar 0)) (gName 1) tYes (tOp rInS (tVar 1) (tC (.str "0123456789"))) [1]) tNil))))
theorem len_are_digits {K : PySem.W.Frag} {vs : List V} {H : Hp} {Q : VK} {E : XK} (h : sp_are_digits K vs H Q E) : vs.length = 1 := by
  obtain ⟨_, rfl, _⟩ := h; rfl
def inD (c : Nat) : Bool := decide (c ∈ [48, 49, 50, 51, 52, 53, 54, 55, 56, 57])
theorem inD_iff {c : Nat} : inD c = true ↔ 48 ≤ c ∧ c ≤ 57 := by
  unfold inD
  rw [decide_eq_true_eq]
  simp
  omega
theorem pure_are_digits {K : PySem.W.Frag} (vs : List V) (H : Hp) (Q : VK) (E : XK) (h : sp_are_digits K vs H Q E) : t_are_digits K E { nx := fun _ H' => Q .non H', rt := Q } (start N_are_digits vs) H := by
  obtain ⟨l, rfl, hl, q⟩ := h
  unfold t_are_digits
  rw [empty_S, digits_S]
  repeat walk_at "mst"
  refine k_iteN (fun hne => ?_) (fun he => ?_)
  · repeat walk_at "mst"
    refine ⟨_, rfl, S l, rfl, fun D hD => lc_txt (l := l) (fun i H' => H' = upd H D (.lst (((l.take i).map inD).map V.bl))) rfl ?_ ?_⟩
    · rintro i c H' hi rfl
      have hil : i < l.length := by
        rcases Nat.lt_or_ge i l.length with h | h
        · exact h
        · rw [List.getElem?_eq_none h] at hi; cases hi
      repeat walk_at "mst"
      refine ⟨rfl, ?_⟩
      unfold tYes
      refine k_iteT ?_
      repeat walk_at "mst"
      refine ⟨_, upd_same, by rw [List.length_map, List.length_map, List.length_take]; exact Nat.lt_of_lt_of_le (by omega : min i l.length < 600) (line_ok (Nat.le_refl _)), ?_⟩
      have e : l.take (i + 1) = l.take i ++ [c] := by rw [List.take_succ, hi]; rfl
      rw [upd_upd, e, List.map_append, List.map_append]
      rfl
    · rintro H' rfl
      refine k_nil ?_
      refine k_all (k_sq upd_same) ?_
      rw [List.take_length]
      have e : (l.map inD).all id = decide (DigsB l) := by
        rw [Bool.eq_iff_iff, decide_eq_true_eq, List.all_map, List.all_eq_true]
        constructor
        · exact fun h => ⟨hne, fun c hc => inD_iff.mp (h c hc)⟩
        · exact fun h c hc => inD_iff.mpr (h.2 c hc)
      rw [e]
      exact q _ (Evl.Ex.new hD)
  · have e : decide (DigsB l) = false := decide_eq_false fun h => h.1 he
    rw [e] at q
    exact q _ (Evl.Ex.refl _)
theorem use_digs {K : PySem.W.Frag} {H : Hp} {Q : VK} {E : XK} {l : List Nat} (hl : l.length ≤ 500) (q : ∀ H', Ex H H' → Q (.bl (decide (DigsB l))) H') : sp_are_digits K ([.str (S l)] ++ []) H Q E := ⟨l, rfl, hl, q⟩
/-- a thing of a known kind: whether it is an int within bounds -/
def wholeV (x : V) (lo hi : Int) : Bool := match x with
  | .int i => decide (lo ≤ i) && decide (i ≤ hi)
  | _ => false
def sp_is_whole (K : PySem.W.Frag) : Sp := spR (fun vs H => ∃ (x : V) (T : String) (lo hi : Int), vs = [x, .int lo, .int hi] ∧ TyB K H x T)
  (fun vs H v H' => ∃ (x : V) (lo hi : Int), vs = [x, .int lo, .int hi] ∧ v = .bl (wholeV x lo hi) ∧ H' = H)
abbrev N_is_whole : List Str := ["thing", "least", "most"]
def t_is_whole (K : PySem.W.Frag) (E : XK) : TS := (tRet (tAndV (tOp rIsTy (tCB (rTyp K) (tCons (tVar 0) tNil)) (tC (.ty "int"))) (tChain rLeI rLeI (tVar 1) (tVar 0) (tVar 2))))
theorem len_is_whole {K : PySem.W.Frag} {vs : List V} {H : Hp} {Q : VK} {E : XK} (h : sp_is_whole K vs H Q E) : vs.length = 3 := by
  obtain ⟨⟨_, _, _, _, rfl, _⟩, _⟩ := h; rfl
theorem whole_ty {K : PySem.W.Frag} {H : Hp} {x : V} {T : String} (t : TyB K H x T) : (T = "int" ∧ ∃ i, x = .int i) ∨ (T ≠ "int" ∧ ∀ lo hi, wholeV x lo hi = false) := by
  cases t
  case int i => exact Or.inl ⟨rfl, i, rfl⟩
  all_goals exact Or.inr ⟨by decide, fun _ _ => rfl⟩
theorem pure_is_whole {K : PySem.W.Frag} (vs : List V) (H : Hp) (Q : VK) (E : XK) (h : sp_is_whole K vs H Q E) : t_is_whole K E { nx := fun _ H' => Q .non H', rt := Q } (start N_is_whole vs) H := by
  obtain ⟨⟨x, T, lo, hi, rfl, ht⟩, q⟩ := h
  unfold t_is_whole
  repeat walk_at "mst"
  refine ⟨x, T, rfl, ht, ?_⟩
  repeat walk_at "mst"
  rcases whole_ty ht with ⟨e, i, rfl⟩ | ⟨e, hf⟩
  · refine k_iteD (fun _ => ?_) (fun hn => absurd e hn)
    repeat walk_at "mst"
    refine k_iteD (fun h1 => ?_) (fun h1 => ?_)
    · repeat walk_at "mst"
      refine q _ _ ⟨_, lo, hi, rfl, ?_, rfl⟩
      show V.bl (decide (i ≤ hi)) = V.bl (decide (lo ≤ i) && decide (i ≤ hi))
      rw [decide_eq_true h1, Bool.true_and]
    · refine q _ _ ⟨_, lo, hi, rfl, ?_, rfl⟩
      show V.bl false = V.bl (decide (lo ≤ i) && decide (i ≤ hi))
      rw [decide_eq_false h1, Bool.false_and]
  · refine k_iteD (fun hy => absurd hy e) (fun _ => ?_)
    exact q _ _ ⟨x, lo, hi, rfl, by rw [hf], rfl⟩
open SX (S)
def sp_read_top (K : PySem.W.Frag) : Sp := fun vs H Q _ => ∃ a : List Nat, vs = [.str (S a)] ∧ a.length ≤ 500 ∧ ∀ v H', Ex H H' → RTop a v → Q v H'
local macro_rules | `(tactic| walk_at "mst") => `(tactic| first
  | with_reducible refine k_isiSS ?_
  | with_reducible refine k_typS ?_
  | with_reducible refine k_NT ?_
  | with_reducible refine k_tys ?_
  | with_reducible refine k_eqS ?_
  | with_reducible refine k_neS ?_
  | with_reducible refine k_inS ?_
  | with_reducible refine k_truS ?_)
abbrev N_read_top : List Str := ["text", "digits", "top"]
def t_read_top (K : PySem.W.Frag) (E : XK) : TS := (tSeq (tAsg (tBM K "str" rRmPre (tVar 0) (tCons (tC (.str "-")) tNil)) (gName 1)) (tSeq (tIfS (tOr (tTest (tOp rGtI (tCB rLenS (tCons (tVar 0) tNil)) (tC (.int 14)))) (tNot (tB (tCall (sp_are_digits K) [] E0 (tCons (tVar 1) tNil))))) (tRet (tC .non)) tNext) (tSeq (tAsg (tCB rIntS (tCons (tVar 0) tNil)) (gName 2)) (tRet (tIf (tB (tCall (sp_is_whole K) [] E0 (tCons (tVar 2) (tCons (tUn rNegI (tC (.int 1000000000000))) (tCons (tC (.int 1000000000000)) tNil))))) (tVar 2) (tC .non))))))
theorem len_read_top {K : PySem.W.Frag} {vs : List V} {H : Hp} {Q : VK} {E : XK} (h : sp_read_top K vs H Q E) : vs.length = 1 := by
  obtain ⟨_, rfl, _⟩ := h; rfl
theorem pure_read_top {K : PySem.W.Frag} (vs : List V) (H : Hp) (Q : VK) (E : XK) (h : sp_read_top K vs H Q E) : t_read_top K E { nx := fun _ H' => Q .non H', rt := Q } (start N_read_top vs) H := by
  obtain ⟨a, rfl, hl, q⟩ := h
  unfold t_read_top
  rw [minus_S]
  repeat walk_at "mst"
  refine k_rm (by omega) ?_
  rw [rm_minus]
  have hd : (if a.head? = some 45 then a.drop 1 else a).length ≤ 500 := by
    split
    · rw [List.length_drop]; omega
    · exact hl
  have hgood : ∀ t, a = intL t → (if a.head? = some 45 then a.drop 1 else a) = TL.numL t.natAbs := fun t e => by rw [e]; exact rm_of
  have htext := text_of_digs (a := a)
  generalize (if a.head? = some 45 then a.drop 1 else a) = d at *
  repeat walk_at "mst"
  refine k_lenS (by omega) ?_
  repeat walk_at "mst"
  refine k_iteD (fun h14 => ?_) (fun h14 => ?_)
  · repeat walk_at "mst"
    refine q _ _ (Evl.Ex.refl _) (Or.inl ⟨rfl, fun t ht e => ?_⟩)
    have := intL_len ht
    rw [e] at h14; omega
  · repeat walk_at "mst"
    refine use_digs hd fun H1 e1 => ?_
    repeat walk_at "mst"
    refine k_iteN (fun hn => ?_) (fun hn => ?_)
    · repeat walk_at "mst"
      refine q _ _ e1 (Or.inl ⟨rfl, fun t ht e => hn ?_⟩)
      rw [hgood t e]; exact digs_num _
    · obtain ⟨n, en⟩ := htext hn hl
      repeat walk_at "mst"
      refine k_intS en (by omega) ?_
      repeat walk_at "mst"
      refine ⟨⟨_, _, _, _, rfl, .int n⟩, ?_⟩
      rintro v H2 ⟨x', lo, hi, e, rfl, rfl⟩
      cases e
      have w : wholeV (.int n) (-1000000000000) 1000000000000 = decide (-1000000000000 ≤ n ∧ n ≤ 1000000000000) := by
        show (decide _ && decide _) = _
        rw [Bool.decide_and]
      rw [w]
      repeat walk_at "mst"
      refine k_iteD (fun hb => ?_) (fun hb => ?_)
      · repeat walk_at "mst"
        exact q _ _ e1 (Or.inr ⟨n, rfl, hb, en⟩)
      · repeat walk_at "mst"
        refine q _ _ e1 (Or.inl ⟨rfl, fun t ht e => ?_⟩)
        rw [e, intL_int ht] at en
        cases en
        exact hb ht
theorem use_rtop {K : PySem.W.Frag} {H : Hp} {Q : VK} {E : XK} {a : List Nat} (h : a.length ≤ 500) (q : ∀ v H', Ex H H' → RTop a v → Q v H') : sp_read_top K ([.str (S a)] ++ []) H Q E := ⟨a, rfl, h, q⟩
open SX (S)
def sp_read_power (K : PySem.W.Frag) : Sp := fun vs H Q _ => ∃ b : List Nat, vs = [.str (S b)] ∧ ∀ v, RPow b v → Q v H
local macro_rules | `(tactic| walk_at "mst") => `(tactic| first
  | with_reducible refine k_isiSS ?_
  | with_reducible refine k_typS ?_
  | with_reducible refine k_NT ?_
  | with_reducible refine k_tys ?_
  | with_reducible refine k_eqS ?_
  | with_reducible refine k_neS ?_
  | with_reducible refine k_inS ?_
  | with_reducible refine k_truS ?_)
abbrev N_read_power : List Str := ["text", "power"]
def t_read_power (K : PySem.W.Frag) (E : XK) : TS := (tSeq (tFor (iRng2 (tCons (tC (.int 1)) (tCons (tOp rAddI (tC (.int 40)) (tC (.int 1))) tNil))) (gName 1) (tIfS (tTest (tOp rEq (tCB rStrI (tCons (tOp rShlI (tC (.int 1)) (tVar 1)) tNil)) (tVar 0))) (tRet (tVar 1)) tNext)) (tRet (tC .non)))
theorem len_read_power {K : PySem.W.Frag} {vs : List V} {H : Hp} {Q : VK} {E : XK} (h : sp_read_power K vs H Q E) : vs.length = 1 := by
  obtain ⟨_, rfl, _⟩ := h; rfl
theorem pure_read_power {K : PySem.W.Frag} (vs : List V) (H : Hp) (Q : VK) (E : XK) (h : sp_read_power K vs H Q E) : t_read_power K E { nx := fun _ H' => Q .non H', rt := Q } (start N_read_power vs) H := by
  obtain ⟨b, rfl, q⟩ := h
  unfold t_read_power
  repeat walk_at "mst"
  refine ⟨1, 40 + 1, rfl, ⟨by decide, by decide, by decide, by decide⟩, for_range (lo := 1) (n := 40) (fun i σ H' => H' = H ∧ (∀ n, 1 ≤ n → n ≤ i → b ≠ TL.numL (2 ^ n)) ∧ ∃ v : Option V, σ = [some (.str (S b)), v]) ?_ ?_ ?_⟩
  · exact ⟨rfl, fun n h1 h2 => by omega, none, rfl⟩
  · rintro i σ H' hi ⟨rfl, hin, v, rfl⟩
    repeat walk_at "mst"
    rename_i m hm1 hm2
    obtain ⟨c1, c2, c3⟩ := pw_ok (p := 1 + (i : Int)) ⟨by omega, by omega⟩
    rw [Int.one_mul] at c1
    rw [c1] at hm2
    subst hm2
    refine k_strI ⟨by omega, by omega⟩ ?_
    have ei : intL ((2 ^ (1 + (i : Int)).toNat : Nat) : Int) = TL.numL (2 ^ (i + 1)) := by
      unfold intL
      rw [if_neg (by omega), show (1 + (i : Int)).toNat = i + 1 by omega]; rfl
    rw [ei]
    repeat walk_at "mst"
    refine k_iteD (fun hc => ?_) (fun hc => ?_)
    · repeat walk_at "mst"
      exact q _ (Or.inr ⟨i + 1, by rw [show (1 + (i : Int)) = ((i + 1 : Nat) : Int) by omega], by omega, by omega, hc.symm⟩)
    · repeat walk_at "mst"
      refine ⟨rfl, fun n h1 h2 => ?_, _, rfl⟩
      by_cases h : n ≤ i
      · exact hin n h1 h
      · have e : n = i + 1 := by omega
        subst e
        exact fun h => hc h.symm
  · rintro σ H' ⟨rfl, hin, v, rfl⟩
    repeat walk_at "mst"
    exact q _ (Or.inl ⟨rfl, hin⟩)
theorem use_rpow {K : PySem.W.Frag} {H : Hp} {Q : VK} {E : XK} {b : List Nat} (q : ∀ v, RPow b v → Q v H) : sp_read_power K ([.str (S b)] ++ []) H Q E := ⟨b, rfl, q⟩
def sp_plain (K : PySem.W.Frag) : Sp := spR (fun vs H => ∃ (a b : Int), vs = [.int a, .int b] ∧ 0 ≤ b)
  (fun vs H v H' => ∃ (a b : Int) (p : Addr), vs = [.int a, .int b] ∧ v = .ref p ∧ H p = none ∧ H' = upd H p (.tup [.int (plainZ a b.toNat).1, .int (plainZ a b.toNat).2]))
abbrev N_plain : List Str := ["top", "power"]
def t_plain (K : PySem.W.Frag) (E : XK) : TS := (tSeq (tWhile (tAnd (tTest (tOp rGtI (tVar 1) (tC (.int 0)))) (tTest (tOp rEq (tOp rAndI (tVar 0) (tC (.int 1))) (tC (.int 0))))) (tSeq (tAsg (tOp rShrI (tVar 0) (tC (.int 1))) (gName 0)) (tAsg (tOp rSubI (tVar 1) (tC (.int 1))) (gName 1)))) (tRet (tTup (tCons (tVar 0) (tCons (tVar 1) tNil)))))
theorem len_plain {K : PySem.W.Frag} {vs : List V} {H : Hp} {Q : VK} {E : XK} (h : sp_plain K vs H Q E) : vs.length = 2 := by
  obtain ⟨⟨_, _, rfl, _⟩, _⟩ := h; rfl
theorem pure_plain {K : PySem.W.Frag} (vs : List V) (H : Hp) (Q : VK) (E : XK) (h : sp_plain K vs H Q E) : t_plain K E { nx := fun _ H' => Q .non H', rt := Q } (start N_plain vs) H := by
  obtain ⟨⟨a, b, rfl, h0⟩, q⟩ := h
  unfold t_plain
  repeat walk_at "mst"
  refine k_while (fun m σ H' => H' = H ∧ ∃ (x y : Int), σ = [some (.int x), some (.int y)] ∧ y.toNat = m ∧ 0 ≤ y ∧ plainZ x y.toNat = plainZ a b.toNat) b.toNat ⟨rfl, a, b, rfl, rfl, h0, rfl⟩ ?_
  rintro m σ H' ⟨rfl, x, y, rfl, hm, hy, e⟩
  repeat walk_at "mst"
  refine k_iteD (fun hc => ?_) (fun hc => ?_)
  · repeat walk_at "mst"
    have s1 : (y - 1).toNat + 1 = y.toNat := by omega
    refine k_iteD (fun hd => ?_) (fun hd => ?_)
    · repeat walk_at "mst"
      refine ⟨fun σ2 H2 => ∃ m', m' < m ∧ (H2 = H' ∧ ∃ (x y : Int), σ2 = [some (.int x), some (.int y)] ∧ y.toNat = m' ∧ 0 ≤ y ∧ plainZ x y.toNat = plainZ a b.toNat), fun _ _ z => z, ?_⟩
      repeat walk_at "mst"
      rw [bitAnd_one] at hd
      refine ⟨(y - 1).toNat, by omega, rfl, x / 2, y - 1, rfl, rfl, by omega, ?_⟩
      rw [← e, ← s1, plainZ_even hd]
    · repeat walk_at "mst"
      rw [bitAnd_one] at hd
      refine ⟨two_le _ _, fun p hp => q _ _ ⟨a, b, p, rfl, rfl, hp, ?_⟩⟩
      have e2 : plainZ x y.toNat = (x, y) := by
        rw [← s1, plainZ_odd hd]
        congr 1; omega
      rw [← e, e2]
  · repeat walk_at "mst"
    refine ⟨two_le _ _, fun p hp => q _ _ ⟨a, b, p, rfl, rfl, hp, ?_⟩⟩
    have s1 : y.toNat = 0 := by omega
    have e2 : plainZ x y.toNat = (x, y) := by
      rw [s1, plainZ_zero]
      congr 1; omega
    rw [← e, e2]
def sp_Dyadic_d_init (K : PySem.W.Frag) : Sp := spX (fun vs H => ∃ (p dx : Addr) (x y : V) (T U : String), vs = [.ref p, x, y] ∧ H p = some (.ins (He.ga K "Dyadic") dx []) ∧ TyB K H x T ∧ TyB K H y U)
  (fun vs H v H' => ∃ (p dx : Addr) (a b : Int), vs = [.ref p, .int a, .int b] ∧ okTop a b ∧ v = .non ∧ (∀ c o, H c = some o → c ≠ p → H' c = some o) ∧ ∀ dx, H p = some (.ins (He.ga K "Dyadic") dx []) → H' p = some (.ins (He.ga K "Dyadic") dx (dfs (plainZ a b.toNat).1 (plainZ a b.toNat).2)))
  (fun vs H c d H' => ∃ (p : V) (x y : V), vs = [p, x, y] ∧ (¬ ∃ a b, x = .int a ∧ y = .int b ∧ okTop a b) ∧ c = .ref (He.ga K "BadValue") ∧ d = none ∧ H' = H)
abbrev N_Dyadic_d_init : List Str := ["self", "top", "power"]
def t_Dyadic_d_init (K : PySem.W.Frag) (E : XK) : TS := (tSeq (tIfS (tNot (tB (tCall (sp_is_whole K) [] E0 (tCons (tVar 1) (tCons (tUn rNegI (tC (.int 1000000000000))) (tCons (tC (.int 1000000000000)) tNil)))))) (tRaise E (.ref (He.ga K "BadValue"))) tNext) (tSeq (tIfS (tNot (tB (tCall (sp_is_whole K) [] E0 (tCons (tVar 2) (tCons (tC (.int 0)) (tCons (tC (.int 40)) tNil)))))) (tRaise E (.ref (He.ga K "BadValue"))) tNext) (tAsg (tCall (sp_plain K) [] E0 (tCons (tVar 1) (tCons (tVar 2) tNil))) (gTup K 2 (gCons (gFld K (tVar 0) "_top") (gCons (gFld K (tVar 0) "_power") gNil))))))
theorem len_Dyadic_d_init {K : PySem.W.Frag} {vs : List V} {H : Hp} {Q : VK} {E : XK} (h : sp_Dyadic_d_init K vs H Q E) : vs.length = 3 := by
  obtain ⟨⟨_, _, _, _, _, _, rfl, _⟩, _⟩ := h; rfl
theorem whole_int {x : V} {lo hi : Int} (h : wholeV x lo hi = true) : ∃ i, x = .int i ∧ lo ≤ i ∧ i ≤ hi := by
  cases x
  case int i =>
    have h' : (decide (lo ≤ i) && decide (i ≤ hi)) = true := h
    rw [Bool.and_eq_true, decide_eq_true_eq, decide_eq_true_eq] at h'
    exact ⟨i, rfl, h'.1, h'.2⟩
  all_goals cases h
theorem whole_no {i lo hi : Int} (h : wholeV (.int i) lo hi = false) : ¬ (lo ≤ i ∧ i ≤ hi) := by
  have h' : (decide (lo ≤ i) && decide (i ≤ hi)) = false := h
  rw [Bool.and_eq_false_iff, decide_eq_false_iff_not, decide_eq_false_iff_not] at h'
  rintro ⟨h1, h2⟩
  rcases h' with h' | h'
  · exact h' h1
  · exact h' h2
theorem pure_Dyadic_d_init {K : PySem.W.Frag} (F : FDyadic K) (vs : List V) (H : Hp) (Q : VK) (E : XK) (h : sp_Dyadic_d_init K vs H Q E) : t_Dyadic_d_init K E { nx := fun _ H' => Q .non H', rt := Q } (start N_Dyadic_d_init vs) H := by
  obtain ⟨⟨p, dx, x, y, T, U, rfl, hp, tx, ty⟩, q, r⟩ := h
  unfold t_Dyadic_d_init
  repeat walk_at "mst"
  refine ⟨⟨x, T, _, _, rfl, tx⟩, ?_⟩
  rintro v H1 ⟨x', lo, hi, e, rfl, rfl⟩
  cases e
  repeat walk_at "mst"
  cases hx : wholeV x (-1000000000000) 1000000000000
  · repeat walk_at "mst"
    refine r _ _ _ ⟨_, x, y, rfl, ?_, rfl, rfl, rfl⟩
    rintro ⟨a, b, rfl, rfl, ok⟩
    exact whole_no hx ok.1
  · repeat walk_at "mst"
    refine ⟨⟨y, U, _, _, rfl, ty⟩, ?_⟩
    rintro v H1 ⟨x', lo, hi, e, rfl, rfl⟩
    cases e
    repeat walk_at "mst"
    cases hy : wholeV y 0 40
    · repeat walk_at "mst"
      refine r _ _ _ ⟨_, x, y, rfl, ?_, rfl, rfl, rfl⟩
      rintro ⟨a, b, rfl, rfl, ok⟩
      exact whole_no hy ok.2
    · repeat walk_at "mst"
      obtain ⟨a, rfl, a1, a2⟩ := whole_int hx
      obtain ⟨b, rfl, b1, b2⟩ := whole_int hy
      refine ⟨⟨a, b, rfl, b1⟩, ?_⟩
      rintro v H2 ⟨a', b', t, e, rfl, ht, rfl⟩
      cases e
      have npt : p ≠ t := ne_of_none hp ht
      refine k_gtup (k_st upd_same) rfl ?_
      repeat walk_at "mst"
      refine k_gfld rfl (by rw [upd_ne npt]; exact hp) F.cl F.nt (by show 0 < 1000; decide) ?_
      repeat walk_at "mst"
      refine k_gfld rfl upd_same F.cl F.np (by show 1 < 1000; decide) ?_
      repeat walk_at "mst"
      refine q _ _ ⟨p, dx, a, b, rfl, ⟨⟨a1, a2⟩, b1, b2⟩, rfl, ?_, ?_⟩
      · intro c o hc hne
        rw [upd_ne hne, upd_ne hne, upd_ne (ne_of_none hc ht)]
        exact hc
      · intro dx' h'
        have e : HO.ins (He.ga K "Dyadic") dx [] = HO.ins (He.ga K "Dyadic") dx' [] := Option.some.inj (hp.symm.trans h')
        injection e with _ e _
        subst e
        exact upd_same
/-- a Dyadic is made -/
theorem mk_dy {K : PySem.W.Frag} {H : Hp} {Q : Addr → Hp → Prop} {E : XK} {a b : Int} (ok : okTop a b) (k : ∀ x H', H x = none → Ex H H' → DyAt K H' x (plainZ a b.toNat).1 (plainZ a b.toNat).2 → Q x H') :
    ∀ x dx, H x = none → H dx = none → dx ≠ x → sp_Dyadic_d_init K (.ref x :: ([.int a, .int b] ++ [])) (upd (upd H dx (.own x)) x (.ins (He.ga K "Dyadic") dx [])) (fun v H2 => v = .non ∧ Q x H2) E := by
  intro x dx hx hd hne
  refine ⟨⟨x, dx, _, _, _, _, rfl, upd_same, .int a, .int b⟩, ?_, ?_⟩
  · rintro v H' ⟨p, dx', a', b', e, _, rfl, fr, me⟩
    cases e
    refine ⟨rfl, k x H' hx (fun c o hc => ?_) ⟨dx, me dx upd_same⟩⟩
    have h1 : c ≠ x := ne_of_none hc hx
    refine fr c o ?_ h1
    rw [upd_ne h1, upd_ne (ne_of_none hc hd)]
    exact hc
  · rintro c d H' ⟨p, x', y', e, no, _⟩
    cases e
    exact absurd ⟨a, b, rfl, rfl, ok⟩ no
theorem mk_dy1 {K : PySem.W.Frag} {H : Hp} {Q : Addr → Hp → Prop} {E : XK} {a : Int} (ok : -1000000000000 ≤ a ∧ a ≤ 1000000000000) (k : ∀ x H', H x = none → Ex H H' → DyAt K H' x a 0 → Q x H') :
    ∀ x dx, H x = none → H dx = none → dx ≠ x → sp_Dyadic_d_init K (.ref x :: ([.int a] ++ [.int 0])) (upd (upd H dx (.own x)) x (.ins (He.ga K "Dyadic") dx [])) (fun v H2 => v = .non ∧ Q x H2) E :=
  mk_dy (a := a) (b := 0) ⟨ok, by decide, by decide⟩ k
open SX (S)
def sp_Dyadic_m_text (K : PySem.W.Frag) : Sp := fun vs H Q _ => ∃ (a : Addr) (t p : Int), vs = [.ref a] ∧ DyAt K H a t p ∧ okTop t p ∧ Q (.str (S (txtL t p))) H
local macro_rules | `(tactic| walk_at "mst") => `(tactic| first
  | with_reducible refine k_isiSS ?_
  | with_reducible refine k_typS ?_
  | with_reducible refine k_NT ?_
  | with_reducible refine k_tys ?_
  | with_reducible refine k_eqS ?_
  | with_reducible refine k_neS ?_
  | with_reducible refine k_inS ?_
  | with_reducible refine k_truS ?_)
abbrev N_Dyadic_m_text : List Str := ["self"]
def t_Dyadic_m_text (K : PySem.W.Frag) (E : XK) : TS := (tSeq (tIfS (tTest (tOp rEq (tFld K (tVar 0) "_power") (tC (.int 0)))) (tRet (tCB rStrI (tCons (tFld K (tVar 0) "_top") tNil))) tNext) (tRet (tJoin [(tFmt (tFld K (tVar 0) "_top")), (tC (.str "/")), (tFmt (tOp rShlI (tC (.int 1)) (tFld K (tVar 0) "_power")))])))
theorem len_Dyadic_m_text {K : PySem.W.Frag} {vs : List V} {H : Hp} {Q : VK} {E : XK} (h : sp_Dyadic_m_text K vs H Q E) : vs.length = 1 := by
  obtain ⟨_, _, _, rfl, _⟩ := h; rfl
theorem pure_Dyadic_m_text {K : PySem.W.Frag} (F : FDyadic K) (vs : List V) (H : Hp) (Q : VK) (E : XK) (h : sp_Dyadic_m_text K vs H Q E) : t_Dyadic_m_text K E { nx := fun _ H' => Q .non H', rt := Q } (start N_Dyadic_m_text vs) H := by
  obtain ⟨a, t, p, rfl, hA, ok, q⟩ := h
  obtain ⟨dx, ha⟩ := id hA
  have ok1 := ok.1
  have ok2 := ok.2
  unfold t_Dyadic_m_text
  repeat walk_at "mst"
  refine k_iteD (fun hp => ?_) (fun hp => ?_)
  · repeat walk_at "mst"
    refine k_strI ⟨by omega, by omega⟩ ?_
    have e : txtL t p = intL t := by unfold txtL; rw [if_pos hp]
    rw [← e]; exact q
  · repeat walk_at "mst"
    simp only [tJoin, tJs, tFmt]
    repeat walk_at "mst"
    refine Or.inr ⟨t, rfl, log_ok ⟨by omega, by omega⟩, _, rfl, ?_, ?_⟩
    · rw [int_S]
      show (Str.empty ++ S (intL t)).length ≤ sizeLine
      have := intL_len ok1
      rw [show Str.empty = S [] from rfl, SX.S_cat, SX.S_len]; exact line_ok (by simp; omega)
    · repeat walk_at "mst"
      have l1 := intL_len ok1
      have l2 := pw_len ok2
      have e0 : ((Str.empty ++ Str.ofString (toString t)) ++ ("/" : Str)) = S (intL t ++ [47]) := by
        rw [int_S, slash_S, show Str.empty = S [] from rfl, SX.S_cat, SX.S_cat]; rfl
      refine ⟨_, rfl, ?_, ?_⟩
      · rw [e0, SX.S_len]; exact line_ok (by simp; omega)
      · rw [e0]
        repeat walk_at "mst"
        rename_i m hm1 hm2
        obtain ⟨c1, c2, c3⟩ := pw_ok ok2
        rw [Int.one_mul] at c1
        rw [c1] at hm2
        subst hm2
        refine Or.inr ⟨_, rfl, log_ok ⟨by omega, by omega⟩, _, rfl, ?_, ?_⟩
        all_goals rw [SX.num_S, SX.S_cat]
        · rw [SX.S_len]; exact line_ok (by simp; omega)
        · have e : txtL t p = intL t ++ [47] ++ TL.numL (2 ^ p.toNat) := by unfold txtL; rw [if_neg hp]; simp
          rw [← e]; exact q
theorem use_text {K : PySem.W.Frag} {H : Hp} {Q : VK} {E : XK} {a : Addr} {t p : Int} (hA : DyAt K H a t p) (ok : okTop t p) (q : Q (.str (S (txtL t p))) H) : sp_Dyadic_m_text K (.ref a :: ([] ++ [])) H Q E := ⟨a, t, p, rfl, hA, ok, q⟩
open SX (S)
def sp_Dyadic_m_from_text (K : PySem.W.Frag) : Sp := fun vs H Q E => ∃ (x : V) (T : String), vs = [x] ∧ TyB K H x T ∧ (∀ l, x = .str (S l) → l.length ≤ 500) ∧
  (∀ l t p r H', x = .str (S l) → Good l t p → Ex H H' → DyAt K H' r t p → Q (.ref r) H') ∧ ((∀ l t p, x = .str (S l) → ¬ Good l t p) → ∀ H', Ex H H' → E (.ref (He.ga K "BadText")) none H')
local macro_rules | `(tactic| walk_at "mst") => `(tactic| first
  | with_reducible refine k_isiSS ?_
  | with_reducible refine k_typS ?_
  | with_reducible refine k_NT ?_
  | with_reducible refine k_tys ?_
  | with_reducible refine k_eqS ?_
  | with_reducible refine k_neS ?_
  | with_reducible refine k_inS ?_
  | with_reducible refine k_truS ?_)
local macro_rules | `(tactic| walk_at "mst") => `(tactic| first
  | with_reducible refine k_isint ?_
  | with_reducible refine k_isnon ?_)
abbrev N_Dyadic_m_from_text : List Str := ["text", "top_text", "slash", "bottom_text", "top", "power", "number"]
def t_Dyadic_m_from_text (K : PySem.W.Frag) (E : XK) : TS := (tSeq (tIfS (tTest (tOp rNT (tCB (rTyp K) (tCons (tVar 0) tNil)) (tC (.ty "str")))) (tRaise E (.ref (He.ga K "BadText"))) tNext) (tSeq (tAsg (tBM K "str" rPartS (tVar 0) (tCons (tC (.str "/")) tNil)) (gTup K 3 (gCons (gName 1) (gCons (gName 2) (gCons (gName 3) gNil))))) (tSeq (tAsg (tCall (sp_read_top K) [] E0 (tCons (tVar 1) tNil)) (gName 4)) (tSeq (tAsg (tIf (tTru K (tVar 2)) (tCall (sp_read_power K) [] E0 (tCons (tVar 3) tNil)) (tC (.int 0))) (gName 5)) (tSeq (tIfS (tOr (tTest (tOp rIsN (tVar 4) (tC .non))) (tTest (tOp rIsN (tVar 5) (tC .non)))) (tRaise E (.ref (He.ga K "BadText"))) tNext) (tSeq (tAsg (tMake (He.ga K "Dyadic") (sp_Dyadic_d_init K) [] E0 (tCons (tVar 4) (tCons (tVar 5) tNil))) (gName 6)) (tSeq (tIfS (tTest (tOp rNe (tMeth (He.ga K "Dyadic") "text" (sp_Dyadic_m_text K) [] E0 (tVar 6) tNil) (tVar 0))) (tRaise E (.ref (He.ga K "BadText"))) tNext) (tRet (tVar 6)))))))))
theorem len_Dyadic_m_from_text {K : PySem.W.Frag} {vs : List V} {H : Hp} {Q : VK} {E : XK} (h : sp_Dyadic_m_from_text K vs H Q E) : vs.length = 1 := by
  obtain ⟨_, _, rfl, _⟩ := h; rfl
theorem ty_str {K : PySem.W.Frag} {H : Hp} {x : V} {T : String} (t : TyB K H x T) : (T = "str" ∧ ∃ l, x = .str (S l)) ∨ (T ≠ "str" ∧ ∀ l, x ≠ .str (S l)) := by
  cases t
  case str y =>
    obtain ⟨l, rfl⟩ := str_S y
    exact Or.inl ⟨rfl, l, rfl⟩
  all_goals exact Or.inr ⟨by decide, fun l e => by cases e⟩
theorem pure_Dyadic_m_from_text {K : PySem.W.Frag} (vs : List V) (H : Hp) (Q : VK) (E : XK) (h : sp_Dyadic_m_from_text K vs H Q E) : t_Dyadic_m_from_text K E { nx := fun _ H' => Q .non H', rt := Q } (start N_Dyadic_m_from_text vs) H := by
  obtain ⟨x, T, rfl, ty, hlen, q, r⟩ := h
  unfold t_Dyadic_m_from_text
  rw [slash_S]
  repeat walk_at "mst"
  refine ⟨x, T, rfl, ty, ?_⟩
  repeat walk_at "mst"
  rcases ty_str ty with ⟨eT, l, rfl⟩ | ⟨eT, no⟩
  rotate_left
  · refine k_iteN (fun _ => ?_) (fun h => absurd h eT)
    repeat walk_at "mst"
    exact r (fun l t p e => absurd e (no l)) _ (Evl.Ex.refl _)
  have hl := hlen l rfl
  have r' : (∀ t p, ¬ Good l t p) → ∀ H', Ex H H' → E (.ref (He.ga K "BadText")) none H' := fun h => r fun l' t p e => by
    have := SX.S_inj (V.str.inj e)
    subst this
    exact h t p
  have q' : ∀ t p r H', Good l t p → Ex H H' → DyAt K H' r t p → Q (.ref r) H' := fun t p r H' => q l t p r H' rfl
  clear q r
  refine k_iteN (fun h => absurd eT h) (fun _ => ?_)
  repeat walk_at "mst"
  refine k_partS (by simp) (by omega) fun P hP => ?_
  obtain ⟨a, s, b, ep, hs, ha⟩ := part_gen l
  have gp := fun t p (g : Good l t p) => good_part ep g
  rw [ep]
  have eP := Evl.Ex.new (o := HO.tup [V.str (S a, S s, S b).1, V.str (S a, S s, S b).2.1, V.str (S a, S s, S b).2.2]) hP
  refine k_gtup (k_st upd_same) rfl ?_
  repeat walk_at "mst"
  refine use_rtop (by omega) fun v1 H1 e1 R1 => ?_
  have e01 := eP.trans e1
  repeat walk_at "mst"
  have noTop : ∀ (t u : Int) (p : Int), intText? (S a) = some t → Good l u p → u = t := fun t u p et g => by
    have e := (gp u p g).1
    rw [e, intL_int g.1.1] at et
    exact Option.some.inj et
  rcases hs with rfl | rfl
  · refine tru_S (by decide) ?_
    rw [decide_eq_true rfl]
    have z0 : ∀ t p, Good l t p → p = 0 := fun t p g => by
      rcases (gp t p g).2 with h | ⟨_, h, _⟩
      · exact h.1
      · cases h
    repeat walk_at "mst"
    rcases R1 with ⟨rfl, no⟩ | ⟨t, rfl, bt, et⟩
    · repeat walk_at "mst"
      exact r' (fun t p g => no t g.1.1 (gp t p g).1) _ e01
    · repeat walk_at "mst"
      refine mk_dy (a := t) (b := 0) ⟨bt, by decide, by decide⟩ fun r H2 hr e2 hR => ?_
      rw [slf_plain (t := t) (p := 0) (Or.inl rfl) (by decide)] at hR
      have e02 := e01.trans e2
      repeat walk_at "mst"
      refine use_text (t := t) (p := 0) hR ⟨bt, by decide, by decide⟩ ?_
      repeat walk_at "mst"
      refine k_iteN (fun hne => ?_) (fun heq => ?_)
      · repeat walk_at "mst"
        refine r' (fun u p g => hne ?_) _ e02
        have hu := noTop t u p et g
        have hp := z0 u p g
        subst hu; subst hp
        exact g.2.2.symm
      · repeat walk_at "mst"
        exact q' t 0 r _ ⟨⟨bt, by decide, by decide⟩, Or.inl rfl, heq.symm⟩ e02 hR
  · refine tru_S (by decide) ?_
    rw [decide_eq_false (by simp)]
    have z0 : ∀ t p, Good l t p → p ≠ 0 ∧ b = TL.numL (2 ^ p.toNat) := fun t p g => by
      rcases (gp t p g).2 with ⟨_, h⟩ | h
      · cases h
      · exact ⟨h.1, h.2.2⟩
    repeat walk_at "mst"
    refine use_rpow fun v2 R2 => ?_
    repeat walk_at "mst"
    rcases R1 with ⟨rfl, no⟩ | ⟨t, rfl, bt, et⟩
    · repeat walk_at "mst"
      exact r' (fun t p g => no t g.1.1 (gp t p g).1) _ e01
    · rcases R2 with ⟨rfl, no2⟩ | ⟨n, rfl, n1, n2, eb⟩
      · repeat walk_at "mst"
        refine r' (fun u p g => ?_) _ e01
        have z := z0 u p g
        have okp := g.1.2
        exact no2 p.toNat (by omega) (by omega) z.2
      · repeat walk_at "mst"
        have okn : okTop t (n : Int) := ⟨bt, by omega, by omega⟩
        refine mk_dy (a := t) (b := (n : Int)) okn fun r H2 hr e2 hR => ?_
        have e02 := e01.trans e2
        repeat walk_at "mst"
        refine use_text hR (okTop_pl okn) ?_
        repeat walk_at "mst"
        refine k_iteN (fun hne => ?_) (fun heq => ?_)
        · repeat walk_at "mst"
          refine r' (fun u p g => hne ?_) _ e02
          have hu := noTop t u p et g
          have z := z0 u p g
          have hn : n = p.toNat := pw_one (eb.symm.trans z.2)
          have okp := g.1.2
          have hp : (n : Int) = p := by omega
          subst hu
          rw [hp, slf_plain g.2.1 okp.1]
          exact g.2.2.symm
        · repeat walk_at "mst"
          exact q' _ _ r _ ⟨okTop_pl okn, plainZ_plain t _, heq.symm⟩ e02 hR
/-- thing: an int -/
def sp_law_is_integer (K : PySem.W.Frag) : Sp := spR (fun vs H => ∃ i : Int, vs = [.int i]) (fun vs H v H' => v = .bl true ∧ H' = H)
abbrev N_law_is_integer : List Str := ["thing"]
def t_law_is_integer (K : PySem.W.Frag) (E : XK) : TS := (tRet (tAndV (tCB (rIsi K) (tCons (tVar 0) (tCons (tC (.ty "int")) tNil))) (tNotV (tCB (rIsi K) (tCons (tVar 0) (tCons (tC (.ty "bool")) tNil))))))
theorem len_law_is_integer {K : PySem.W.Frag} {vs : List V} {H : Hp} {Q : VK} {E : XK} (h : sp_law_is_integer K vs H Q E) : vs.length = 1 := by
  obtain ⟨⟨_, rfl⟩, _⟩ := h; rfl
theorem pure_law_is_integer {K : PySem.W.Frag} (vs : List V) (H : Hp) (Q : VK) (E : XK) (h : sp_law_is_integer K vs H Q E) : t_law_is_integer K E { nx := fun _ H' => Q .non H', rt := Q } (start N_law_is_integer vs) H := by
  obtain ⟨⟨i, rfl⟩, q⟩ := h
  unfold t_law_is_integer
  repeat walk_at "mst"
  exact q _ _ ⟨rfl, rfl⟩
theorem use_is_integer {K : PySem.W.Frag} {H : Hp} {Q : VK} {E : XK} {i : Int} (q : Q (.bl true) H) : sp_law_is_integer K ([.int i] ++ []) H Q E :=
  ⟨⟨i, rfl⟩, fun _ _ ⟨e, e'⟩ => by rw [e, e']; exact q⟩
local macro_rules | `(tactic| walk_at "mst") => `(tactic| with_reducible refine use_is_integer ?_)
def sp_Dyadic_m_top (K : PySem.W.Frag) : Sp := spR (fun vs H => ∃ (a : Addr) (t p : Int), vs = [.ref a] ∧ DyAt K H a t p)
  (fun vs H v H' => (∀ (a : Addr) (t p : Int), vs = [.ref a] → DyAt K H a t p → v = .int t) ∧ H' = H)
abbrev N_Dyadic_m_top : List Str := ["self"]
def t_Dyadic_m_top (K : PySem.W.Frag) (E : XK) : TS := (tRet (tFld K (tVar 0) "_top"))
theorem len_Dyadic_m_top {K : PySem.W.Frag} {vs : List V} {H : Hp} {Q : VK} {E : XK} (h : sp_Dyadic_m_top K vs H Q E) : vs.length = 1 := by
  obtain ⟨⟨_, _, _, rfl, _⟩, _⟩ := h; rfl
theorem pure_Dyadic_m_top {K : PySem.W.Frag} (F : FDyadic K) (vs : List V) (H : Hp) (Q : VK) (E : XK) (h : sp_Dyadic_m_top K vs H Q E) : t_Dyadic_m_top K E { nx := fun _ H' => Q .non H', rt := Q } (start N_Dyadic_m_top vs) H := by
  obtain ⟨⟨a, t, p, rfl, hA⟩, q⟩ := h
  obtain ⟨dx, ha⟩ := id hA
  unfold t_Dyadic_m_top
  repeat walk_at "mst"
  refine q _ _ ⟨?_, rfl⟩
  intro a' t' p' e h'
  cases e
  obtain ⟨rfl, rfl⟩ := dy_inj hA h'
  rfl
theorem use_top {K : PySem.W.Frag} {H : Hp} {Q : VK} {E : XK} {a : Addr} {t p : Int} (h : DyAt K H a t p) (q : Q (.int t) H) : sp_Dyadic_m_top K [.ref a] H Q E :=
  ⟨⟨a, t, p, rfl, h⟩, fun _ _ ⟨e, e'⟩ => by rw [e a t p rfl h, e']; exact q⟩
local macro_rules | `(tactic| walk_at "mst") => `(tactic| ((with_reducible refine use_top (t := ?_) (p := ?_) ?_ ?_); rotate_left 2; (focus walk_at "mdy")))
def sp_Dyadic_m_power (K : PySem.W.Frag) : Sp := spR (fun vs H => ∃ (a : Addr) (t p : Int), vs = [.ref a] ∧ DyAt K H a t p)
  (fun vs H v H' => (∀ (a : Addr) (t p : Int), vs = [.ref a] → DyAt K H a t p → v = .int p) ∧ H' = H)
abbrev N_Dyadic_m_power : List Str := ["self"]
def t_Dyadic_m_power (K : PySem.W.Frag) (E : XK) : TS := (tRet (tFld K (tVar 0) "_power"))
theorem len_Dyadic_m_power {K : PySem.W.Frag} {vs : List V} {H : Hp} {Q : VK} {E : XK} (h : sp_Dyadic_m_power K vs H Q E) : vs.length = 1 := by
  obtain ⟨⟨_, _, _, rfl, _⟩, _⟩ := h; rfl
theorem pure_Dyadic_m_power {K : PySem.W.Frag} (F : FDyadic K) (vs : List V) (H : Hp) (Q : VK) (E : XK) (h : sp_Dyadic_m_power K vs H Q E) : t_Dyadic_m_power K E { nx := fun _ H' => Q .non H', rt := Q } (start N_Dyadic_m_power vs) H := by
  obtain ⟨⟨a, t, p, rfl, hA⟩, q⟩ := h
  obtain ⟨dx, ha⟩ := id hA
  unfold t_Dyadic_m_power
  repeat walk_at "mst"
  refine q _ _ ⟨?_, rfl⟩
  intro a' t' p' e h'
  cases e
  obtain ⟨rfl, rfl⟩ := dy_inj hA h'
  rfl
theorem use_power {K : PySem.W.Frag} {H : Hp} {Q : VK} {E : XK} {a : Addr} {t p : Int} (h : DyAt K H a t p) (q : Q (.int p) H) : sp_Dyadic_m_power K [.ref a] H Q E :=
  ⟨⟨a, t, p, rfl, h⟩, fun _ _ ⟨e, e'⟩ => by rw [e a t p rfl h, e']; exact q⟩
local macro_rules | `(tactic| walk_at "mst") => `(tactic| ((with_reducible refine use_power (t := ?_) (p := ?_) ?_ ?_); rotate_left 2; (focus walk_at "mdy")))
def sp_law_holds (K : PySem.W.Frag) : Sp := spR (fun vs H => ∃ (a : Addr) (t p x y : Int), vs = [.ref a, .int x, .int y] ∧ DyAt K H a t p ∧ (0 ≤ y ∧ y ≤ 64) ∧ (plainZ x y.toNat).1 = t ∧ (plainZ x y.toNat).2 = p)
  (fun vs H v H' => v = .bl true ∧ Ex H H')
abbrev N_law_holds : List Str := ["number", "top", "power", "plain"]
def t_law_holds (K : PySem.W.Frag) (E : XK) : TS := (tSeq (tAsg (tCall (sp_law_plain K) [] E0 (tCons (tVar 1) (tCons (tVar 2) tNil))) (gName 3)) (tSeq (tIfS (tOr (tNot (tB (tCB (rIsC (He.ga K "Dyadic")) (tCons (tVar 0) (tCons (tC (.ref (He.ga K "Dyadic"))) tNil))))) (tOr (tNot (tB (tCall (sp_law_is_integer K) [] E0 (tCons (tProp (He.ga K "Dyadic") (sp_Dyadic_m_top K) [] E0 (tVar 0)) tNil)))) (tNot (tB (tCall (sp_law_is_integer K) [] E0 (tCons (tProp (He.ga K "Dyadic") (sp_Dyadic_m_power K) [] E0 (tVar 0)) tNil)))))) (tRet (tC (.bl false))) tNext) (tRet (tAndV (tOp rEq (tProp (He.ga K "Dyadic") (sp_Dyadic_m_top K) [] E0 (tVar 0)) (tOp (rIxT K) (tVar 3) (tC (.int 0)))) (tOp rEq (tProp (He.ga K "Dyadic") (sp_Dyadic_m_power K) [] E0 (tVar 0)) (tOp (rIxT K) (tVar 3) (tC (.int 1))))))))
theorem len_law_holds {K : PySem.W.Frag} {vs : List V} {H : Hp} {Q : VK} {E : XK} (h : sp_law_holds K vs H Q E) : vs.length = 3 := by
  obtain ⟨⟨_, _, _, _, _, rfl, _⟩, _⟩ := h; rfl
theorem pure_law_holds {K : PySem.W.Frag} (vs : List V) (H : Hp) (Q : VK) (E : XK) (h : sp_law_holds K vs H Q E) : t_law_holds K E { nx := fun _ H' => Q .non H', rt := Q } (start N_law_holds vs) H := by
  obtain ⟨⟨a, t, p, x, y, rfl, hA, hy, e1, e2⟩, q⟩ := h
  unfold t_law_holds
  repeat walk_at "mst"
  refine use_plain hy fun pp hpp => ?_
  rw [e1, e2]
  have hA2 : DyAt K (upd H pp (HO.tup [V.int t, V.int p])) a t p := hA.ex (Evl.Ex.new hpp)
  have hp2 : upd H pp (HO.tup [V.int t, V.int p]) pp = some (HO.tup [V.int t, V.int p]) := upd_same
  repeat walk_at "mst"
  refine k_iteD (fun _ => ?_) (fun hn => absurd rfl hn)
  repeat walk_at "mst"
  exact q _ _ ⟨by rw [decide_eq_true rfl], Evl.Ex.new hpp⟩
theorem use_holds {K : PySem.W.Frag} {H : Hp} {Q : VK} {E : XK} {a : Addr} {t p x y : Int} (hA : DyAt K H a t p) (hy : 0 ≤ y ∧ y ≤ 64) (e1 : (plainZ x y.toNat).1 = t) (e2 : (plainZ x y.toNat).2 = p) (k : ∀ H', Ex H H' → Q (.bl true) H') : sp_law_holds K ([.ref a, .int x, .int y] ++ []) H Q E :=
  ⟨⟨a, t, p, x, y, rfl, hA, hy, e1, e2⟩, fun _ H' ⟨e, e'⟩ => by rw [e]; exact k H' e'⟩
open SX (S)
def sp_law_asked (K : PySem.W.Frag) : Sp := fun vs H Q _ => ∃ (x : V), vs = [x] ∧ Knd K H x ∧ (∀ l, x = .str (S l) → l.length ≤ 500) ∧ ∀ H', Ex H H' → Q (.bl true) H'
local macro_rules | `(tactic| walk_at "mst") => `(tactic| first
  | with_reducible refine k_isnon ?_
  | with_reducible refine k_tryAs ?_
  | with_reducible refine k_when ⟨rfl, rfl⟩ ?_
  | ((refine k_isE (b := ?_) ?_ rel_ref ?_); rotate_left; (focus assumption))
  | ((refine k_isE (b := ?_) ?_ rel_ty ?_); rotate_left; (focus assumption)))
abbrev N_law_asked : List Str := ["text", "due", "number", "e"]
def t_law_asked (K : PySem.W.Frag) (E : XK) : TS := (tSeq (tAsg (tCall (sp_law_reading K) [] E0 (tCons (tVar 0) tNil)) (gName 1)) (tSeq (tTryAs K (.ref (He.ga K "PlayError")) 3 (fun W => (tAsg (tSMethS (He.ga K "Dyadic") (sp_Dyadic_m_from_text K) [] (WE W) (tC (.ref (He.ga K "Dyadic"))) (tCons (tVar 0) tNil)) (gName 2))) (fun a cls d => tWhen (cls = .ref (He.ga K "BadText") ∧ d = none) (tSeq (tIfS (tOr (tB (tCB (rIsE K (He.ga K "BadText") a) (tCons (tVar 3) (tCons (tC (.ref (He.ga K "BadValue"))) tNil)))) (tOr (tB (tCB (rIsE K (He.ga K "BadText") a) (tCons (tVar 3) (tCons (tC (.ref (He.ga K "NoMove"))) tNil)))) (tB (tCB (rIsE K (He.ga K "BadText") a) (tCons (tVar 3) (tCons (tC (.ref (He.ga K "Unknown"))) tNil)))))) (tRet (tC (.bl false))) tNext) (tRet (tAndV (tOp rIsN (tVar 1) (tC .non)) (tAndV (tCB (rIsE K (He.ga K "BadText") a) (tCons (tVar 3) (tCons (tC (.ref (He.ga K "BadText"))) tNil))) (tCB (rIsE K (He.ga K "BadText") a) (tCons (tVar 3) (tCons (tC (.ty "ValueError")) tNil))))))))) (tRet (tAndV (tOp rNotN (tVar 1) (tC .non)) (tCall (sp_law_holds K) [] E0 (tCons (tVar 2) (tCons (tOp (rIxT K) (tVar 1) (tC (.int 0))) (tCons (tOp (rIxT K) (tVar 1) (tC (.int 1))) tNil))))))))
theorem len_law_asked {K : PySem.W.Frag} {vs : List V} {H : Hp} {Q : VK} {E : XK} (h : sp_law_asked K vs H Q E) : vs.length = 1 := by
  obtain ⟨_, rfl, _⟩ := h; rfl
theorem k_smS {C : Addr} {sp : Sp} {E : L2.St → XK} {ta : TE} {t : TA} {σ : L2.St} {H : Hp} {Q : VK} (q : ta σ H fun x H1 => x = .ref C ∧ t σ H1 fun vs H2 => sp (vs ++ []) H2 Q (E σ)) : tSMethS C sp [] E ta t σ H Q := q
theorem ref_not {A B : Prop} {a : Addr} (q : A) : if (!decide (V.ref a = V.non)) = true then A else B := by simpa using q
theorem pure_law_asked {K : PySem.W.Frag} (F : FBadText K) (vs : List V) (H : Hp) (Q : VK) (E : XK) (h : sp_law_asked K vs H Q E) : t_law_asked K E { nx := fun _ H' => Q .non H', rt := Q } (start N_law_asked vs) H := by
  obtain ⟨x, rfl, kd, hl, q⟩ := h
  obtain ⟨T, ty⟩ := kd.ty
  obtain ⟨f0, f1, f2, f3, f4, f5⟩ := F
  unfold t_law_asked
  repeat walk_at "mst"
  refine ⟨x, rfl, kd, hl, fun v H1 e1 due => ?_⟩
  repeat walk_at "mst"
  refine k_smS ?_
  repeat walk_at "mst"
  refine ⟨rfl, ?_⟩
  repeat walk_at "mst"
  have ty1 : TyB K H1 x T := by
    cases ty
    case lst h => exact .lst (Evl.ex_l e1 h)
    case tup h => exact .tup (Evl.ex_t e1 h)
    case dK h => exact .dK (e1 _ _ h)
    all_goals constructor
  refine ⟨x, T, rfl, ty1, hl, fun l t p r H2 ex g e2 hR => ?_, fun no H2 e2 => ?_⟩
  · rcases due with ⟨rfl, no⟩ | ⟨z, l', a, b, rfl, ex', hz, ok, g'⟩
    · exact absurd g (no l t p ex)
    · have el : l' = l := SX.S_inj (V.str.inj (ex'.symm.trans ex))
      subst el
      obtain ⟨e3, e4⟩ := good_one g g'
      have hz2 := e2 _ _ hz
      have okb := ok.2
      repeat walk_at "mst"
      refine ref_not ?_
      repeat walk_at "mst"
      refine use_holds hR ⟨okb.1, by omega⟩ e3.symm e4.symm fun H3 e3' => ?_
      exact q _ (e1.trans (e2.trans e3'))
  · refine k_wAs f0 fun a ha => ?_
    rcases due with ⟨rfl, no'⟩ | ⟨z, l', a, b, rfl, ex', hz, ok, g'⟩
    · repeat walk_at "mst"
      exact q _ (e1.trans e2)
    · exact absurd g' (no l' _ _ ex')
theorem use_asked {K : PySem.W.Frag} {H : Hp} {Q : VK} {E : XK} {x : V} (kd : Knd K H x) (hl : ∀ l, x = .str (S l) → l.length ≤ 500) (q : ∀ H', Ex H H' → Q (.bl true) H') : sp_law_asked K ([x] ++ []) H Q E := ⟨x, rfl, kd, hl, q⟩
open SX (S)
def sp_law (K : PySem.W.Frag) : Sp := spR (fun vs H => ∃ (a : Addr) (ns : List Int), vs = [.ref a] ∧ SqL K H a (ns.map V.int)) (fun _ _ v _ => v = .bl true)
local macro_rules | `(tactic| walk_at "mst") => `(tactic| first
  | with_reducible refine k_isiSS ?_
  | with_reducible refine k_typS ?_
  | with_reducible refine k_NT ?_
  | with_reducible refine k_tys ?_
  | with_reducible refine k_eqS ?_
  | with_reducible refine k_neS ?_
  | with_reducible refine k_inS ?_
  | with_reducible refine k_truS ?_)
local macro_rules | `(tactic| walk_at "mst") => `(tactic| first
  | with_reducible refine k_tsl ?_
  | with_reducible refine k_part ?_
  | with_reducible refine k_nopart ?_
  | with_reducible refine k_exi ?_)
abbrev N_law : List Str := ["script", "pair", "good", "digits", "tried", "text"]
def t_law (K : PySem.W.Frag) (E : XK) : TS := (tSeq (tAsg (tCall (sp_law_pair K) [] E0 (tCons (tCall (sp_law_cell K) [] E0 (tCons (tVar 0) (tCons (tC (.int 0)) tNil))) (tCons (tCall (sp_law_cell K) [] E0 (tCons (tVar 0) (tCons (tC (.int 1)) tNil))) tNil))) (gName 1)) (tSeq (tAsg (tCall (sp_law_text K) [] E0 (tCons (tOp (rIxT K) (tVar 1) (tC (.int 0))) (tCons (tOp (rIxT K) (tVar 1) (tC (.int 1))) tNil))) (gName 2)) (tSeq (tAsg (tCall (sp_law_digits K) [] E0 (tCons (tCall (sp_law_cell K) [] E0 (tCons (tVar 0) (tCons (tC (.int 2)) tNil))) (tCons (tC (.int 8)) tNil))) (gName 3)) (tSeq (tAsg (tLst (tCons (tVar 2) (tCons (tCall (sp_law_spoilt K) [] E0 (tCons (tVar 2) (tCons (tSl (rSlL K) (tVar 3) (tPart (tC (.int 1))) tNoPart) tNil))) (tCons (tOp rCatS (tOp rCatS (tCB rStrI (tCons (tOp (rIxT K) (tVar 1) (tC (.int 0))) tNil)) (tC (.str "/"))) (tCB rStrI (tCons (tOp rShlI (tC (.int 1)) (tOp (rIxT K) (tVar 1) (tC (.int 1)))) tNil))) (tCons (tCall (sp_law_odd K) [] E0 (tCons (tOp (rIxL K) (tVar 3) (tC (.int 4))) tNil)) tNil))))) (gName 4)) (tSeq (tDrop (tBM K "list" rAppend (tVar 4) (tCons (tCall (sp_law_joined K) [] E0 (tCons (tSl (rSlL K) (tVar 3) (tPart (tC (.int 2))) tNoPart) (tCons (tCall (sp_law_cell K) [] E0 (tCons (tVar 0) (tCons (tC (.int 3)) tNil))) tNil))) tNil))) (tSeq (tDrop (tBM K "list" rAppend (tVar 4) (tCons (tCall (sp_law_spoilt K) [] E0 (tCons (tOp rCatS (tCall (sp_law_spoilt K) [] E0 (tCons (tOp rCatS (tVar 2) (tC (.str "0"))) (tCons (tSl (rSlL K) (tVar 3) (tPart (tC (.int 4))) tNoPart) tNil))) (tC (.str "1"))) (tCons (tSl (rSlL K) (tVar 3) (tPart (tC (.int 2))) tNoPart) tNil))) tNil))) (tSeq (tDrop (tBM K "list" rAppend (tVar 4) (tCons (tOp (rIxL K) (tLst (tCons (tC .non) (tCons (tC (.int 5)) (tCons (tC (.bl true)) (tCons (tLst (tCons (tC (.str "1")) tNil)) (tCons (tTup (tCons (tC (.str "1")) tNil)) (tCons (tLst tNil) (tCons (tC (.int 0)) (tCons (tTup tNil) (tCons (tUn rNegI (tC (.int 1))) (tCons (tOp (rIxT K) (tVar 1) (tC (.int 0))) tNil))))))))))) (tOp rModI (tCB rIntI (tCons (tOp (rIxL K) (tVar 3) (tC (.int 7))) tNil)) (tC (.int 10)))) tNil))) (tSeq (tDrop (tBM K "list" rAppend (tVar 4) (tCons (tVar 2) tNil))) (tSeq (tFor (iList K (tVar 4)) (gName 5) (tIfS (tNot (tB (tCall (sp_law_asked K) [] E0 (tCons (tVar 5) tNil)))) (tRet (tC (.bl false))) tNext)) (tRet (tC (.bl true))))))))))))
theorem len_law {K : PySem.W.Frag} {vs : List V} {H : Hp} {Q : VK} {E : XK} (h : sp_law K vs H Q E) : vs.length = 1 := by
  obtain ⟨⟨_, _, rfl, _⟩, _⟩ := h; rfl
theorem zero_S : (("0" : Str)) = S [48] := by apply TL.ext_tl; rfl
theorem one1_S : (("1" : Str)) = S [49] := by apply TL.ext_tl; rfl
/-- a thing that may be asked -/
def Ask (K : PySem.W.Frag) (H : Hp) (x : V) : Prop := Knd K H x ∧ ∀ l, x = .str (S l) → l.length ≤ 500
theorem Ask.ex {K : PySem.W.Frag} {H H' : Hp} {x : V} (a : Ask K H x) (e : Ex H H') : Ask K H' x := ⟨a.1.ex e, a.2⟩
theorem ask_S {K : PySem.W.Frag} {H : Hp} {l : List Nat} (h : l.length ≤ 500) : Ask K H (.str (S l)) := ⟨.str l, fun l' e => by have := SX.S_inj (V.str.inj e); subst this; exact h⟩
theorem ask_no {K : PySem.W.Frag} {H : Hp} {x : V} (k : Knd K H x) (h : ∀ y, x ≠ .str y) : Ask K H x := ⟨k, fun l e => absurd e (h _)⟩
theorem ask_tx {K : PySem.W.Frag} {H : Hp} {x : V} {n : Nat} (h : Tx n x) (hn : n ≤ 500) : Ask K H x := by
  obtain ⟨l, rfl, hl⟩ := h
  exact ask_S (by omega)
theorem Knd.but {K : PySem.W.Frag} {H H' : Hp} {x : V} {p : Addr} (k : Knd K H x) (n : x ≠ .ref p) (kp : ∀ c o, H c = some o → c ≠ p → H' c = some o) : Knd K H' x := by
  cases k
  case lst a xs h => exact .lst (kp _ _ h fun e => n (by rw [e]))
  case tup a xs h => exact .tup (kp _ _ h fun e => n (by rw [e]))
  all_goals constructor
theorem at_knd {xs : List V} {i : Int} {R : V → Prop} {N : Nat} (hn : xs.length = N) (h : ∀ x ∈ xs, R x) (h0 : 0 ≤ i) (h1 : i < N) : ∃ x, atI xs i = some x ∧ R x := by
  have hk : i.toNat < xs.length := by omega
  refine ⟨xs[i.toNat], ?_, h _ (List.getElem_mem hk)⟩
  have e : ((i.toNat : Nat) : Int) = i := by omega
  have z : atI xs ((i.toNat : Nat) : Int) = some xs[i.toNat] := atI_nat (by simp [hk])
  rw [e] at z
  exact z
theorem pure_law {K : PySem.W.Frag} (vs : List V) (H : Hp) (Q : VK) (E : XK) (h : sp_law K vs H Q E) : t_law K E { nx := fun _ H' => Q .non H', rt := Q } (start N_law vs) H := by
  obtain ⟨⟨a, ns, rfl, hS⟩, q⟩ := h
  have fin : ∀ b H', b = true → Q (.bl b) H' := by rintro b H' rfl; exact q _ _ rfl
  unfold t_law
  rw [slash_S, zero_S, one1_S]
  repeat walk_at "mst"
  refine use_cell hS (by decide) fun c0 => ?_
  repeat walk_at "mst"
  refine use_cell hS (by decide) fun c1 => ?_
  repeat walk_at "mst"
  refine use_pair fun p1 x1 y1 H1 hp1 e1 hf hx1 hy1 => ?_
  have ok1 : okTop x1 y1 := ⟨hx1, hy1⟩
  repeat walk_at "mst"
  refine use_ltext ok1 fun H2 e2 => ?_
  have lg := txt_len (okTop_pl ok1)
  have ng : txtL (plainZ x1 y1.toNat).1 (plainZ x1 y1.toNat).2 ≠ [] := by
    unfold txtL
    split
    · exact intL_ne _
    · exact fun e => intL_ne _ (List.append_eq_nil_iff.mp e).1
  generalize txtL (plainZ x1 y1.toNat).1 (plainZ x1 y1.toNat).2 = gd at *
  have e02 := e1.trans e2
  have hf2 := e2 _ _ hf
  have hS2 := Evl.ex_l e02 hS
  repeat walk_at "mst"
  refine use_cell hS2 (by decide) fun c2 => ?_
  repeat walk_at "mst"
  refine use_digits ⟨by decide, by decide⟩ fun dp ds H3 ndp e3 hd hl8 hdb => ?_
  have hf3 := e3 _ _ hf2
  have hS3 := Evl.ex_l e3 hS2
  repeat walk_at "mst"
  refine k_slL (k_sq hd) fun s1 ns1 => ?_
  have l8 : ds.length = 8 := by omega
  have cut : ∀ k : Nat, k ≤ 8 → cutV (ds.map V.int) (some (k : Int)) none = (ds.drop k).map V.int := fun k hk => cut_digs (by omega)
  have c1' : cutV (ds.map V.int) (some 1) none = (ds.drop 1).map V.int := cut 1 (by decide)
  rw [c1']
  have e4 := Evl.Ex.new (o := HO.lst ((ds.drop 1).map V.int)) ns1
  have hs4 : upd H3 s1 (HO.lst ((ds.drop 1).map V.int)) s1 = some (HO.lst ((ds.drop 1).map V.int)) := upd_same
  generalize upd H3 s1 (HO.lst ((ds.drop 1).map V.int)) = H4 at *
  repeat walk_at "mst"
  refine use_spoilt ng (by omega) (k_sq hs4) (by rw [List.length_drop]; omega) fun m1 hm1 => ?_
  have hf4 := e4 _ _ hf3
  have hd4 := e4 _ _ hd
  have hS4 := Evl.ex_l e4 hS3
  repeat walk_at "mst"
  refine k_strI ⟨by omega, by omega⟩ ?_
  repeat walk_at "mst"
  have lx := intL_len hx1
  refine k_catS (by rw [List.length_singleton]; omega) ?_
  repeat walk_at "mst"
  rename_i m hm1' hm2
  obtain ⟨c1'', c2', c3'⟩ := pw_ok hy1
  rw [Int.one_mul] at c1''
  rw [c1''] at hm2
  subst hm2
  refine k_strI ⟨by omega, by omega⟩ ?_
  have ei : intL ((2 ^ y1.toNat : Nat) : Int) = TL.numL (2 ^ y1.toNat) := by
    unfold intL
    rw [if_neg (by omega)]; rfl
  rw [ei]
  have lp := pw_len hy1
  have lw : (intL x1 ++ [47] ++ TL.numL (2 ^ y1.toNat)).length ≤ 28 := by rw [List.length_append, List.length_append, List.length_singleton]; omega
  refine k_catS (by rw [List.length_append, List.length_singleton]; omega) ?_
  generalize intL x1 ++ [47] ++ TL.numL (2 ^ y1.toNat) = w at *
  obtain ⟨d4, a4⟩ := int_atJ (ds := ds) (k := 4) (by omega)
  obtain ⟨d7, a7⟩ := int_atJ (ds := ds) (k := 7) (by omega)
  repeat walk_at "mst"
  refine k_ixL (k_sq hd4) a4 ?_
  repeat walk_at "mst"
  refine use_odd fun v1 H5 e5 tx1 => ?_
  have hf5 := e5 _ _ hf4
  have hd5 := e5 _ _ hd4
  have hS5 := Evl.ex_l e5 hS4
  have e05 := e02.trans (e3.trans (e4.trans e5))
  repeat walk_at "mst"
  refine ⟨by show 4 ≤ sizeLine; decide, fun tr ntr => ?_⟩
  have e6 := Evl.Ex.new (o := HO.lst [V.str (S gd), V.str (S m1), V.str (S w), v1]) ntr
  have ht6 : upd H5 tr (HO.lst [V.str (S gd), V.str (S m1), V.str (S w), v1]) tr = some (HO.lst [V.str (S gd), V.str (S m1), V.str (S w), v1]) := upd_same
  generalize upd H5 tr (HO.lst [V.str (S gd), V.str (S m1), V.str (S w), v1]) = H6 at *
  have hd6 := e6 _ _ hd5
  have hS6 := Evl.ex_l e6 hS5
  repeat walk_at "mst"
  refine k_slL (k_sq hd6) fun s2 ns2 => ?_
  have c2c : cutV (ds.map V.int) (some 2) none = (ds.drop 2).map V.int := cut 2 (by decide)
  rw [c2c]
  have e7 := Evl.Ex.new (o := HO.lst ((ds.drop 2).map V.int)) ns2
  have hs7 : upd H6 s2 (HO.lst ((ds.drop 2).map V.int)) s2 = some (HO.lst ((ds.drop 2).map V.int)) := upd_same
  generalize upd H6 s2 (HO.lst ((ds.drop 2).map V.int)) = H7 at *
  repeat walk_at "mst"
  refine use_cell (Evl.ex_l e7 hS6) (by decide) fun c3 => ?_
  repeat walk_at "mst"
  refine use_joined (k_sq hs7) (by rw [List.length_drop]; omega) fun v2 H8 e8 tx2 => ?_
  have ht8 := e8 _ _ (e7 _ _ ht6)
  have e58 := e6.trans (e7.trans e8)
  repeat walk_at "mst"
  · show 4 < sizeLine; decide
  have e9 : Ex H5 (upd H8 tr (HO.lst ([V.str (S gd), V.str (S m1), V.str (S w), v1] ++ [v2]))) := Evl.Ex.mut e58 ntr
  have ht9 : upd H8 tr (HO.lst ([V.str (S gd), V.str (S m1), V.str (S w), v1] ++ [v2])) tr = some (HO.lst [V.str (S gd), V.str (S m1), V.str (S w), v1, v2]) := upd_same
  generalize upd H8 tr (HO.lst ([V.str (S gd), V.str (S m1), V.str (S w), v1] ++ [v2])) = H9 at *
  have hd9 := e9 _ _ hd5
  repeat walk_at "mst"
  refine k_catS (by rw [List.length_singleton]; omega) ?_
  have lg0 : (gd ++ [48]).length ≤ 41 := by rw [List.length_append, List.length_singleton]; omega
  have ng0 : gd ++ [48] ≠ [] := by simp
  generalize gd ++ [48] = g0 at *
  repeat walk_at "mst"
  refine k_slL (k_sq hd9) fun s3 ns3 => ?_
  have c4c : cutV (ds.map V.int) (some 4) none = (ds.drop 4).map V.int := cut 4 (by decide)
  rw [c4c]
  have e10 := Evl.Ex.new (o := HO.lst ((ds.drop 4).map V.int)) ns3
  have hs10 : upd H9 s3 (HO.lst ((ds.drop 4).map V.int)) s3 = some (HO.lst ((ds.drop 4).map V.int)) := upd_same
  generalize upd H9 s3 (HO.lst ((ds.drop 4).map V.int)) = H10 at *
  repeat walk_at "mst"
  refine use_spoilt ng0 (by omega) (k_sq hs10) (by rw [List.length_drop]; omega) fun m2 hm2 => ?_
  repeat walk_at "mst"
  refine k_catS (a := m2) (b := [49]) (by rw [List.length_singleton]; omega) ?_
  have lg1 : (m2 ++ [49]).length ≤ 84 := by rw [List.length_append, List.length_singleton]; omega
  have ng1 : m2 ++ [49] ≠ [] := by simp
  generalize m2 ++ [49] = g1 at *
  repeat walk_at "mst"
  refine k_slL (k_sq (e10 _ _ hd9)) fun s4 ns4 => ?_
  rw [c2c]
  have e11 := Evl.Ex.new (o := HO.lst ((ds.drop 2).map V.int)) ns4
  have hs11 : upd H10 s4 (HO.lst ((ds.drop 2).map V.int)) s4 = some (HO.lst ((ds.drop 2).map V.int)) := upd_same
  generalize upd H10 s4 (HO.lst ((ds.drop 2).map V.int)) = H11 at *
  repeat walk_at "mst"
  refine use_spoilt ng1 (by omega) (k_sq hs11) (by rw [List.length_drop]; omega) fun m3 hm3 => ?_
  have e911 := e10.trans e11
  have ht11 := e911 _ _ ht9
  repeat walk_at "mst"
  · show 5 < sizeLine; decide
  have e12 : Ex H5 (upd H11 tr (HO.lst ([V.str (S gd), V.str (S m1), V.str (S w), v1, v2] ++ [V.str (S m3)]))) := Evl.Ex.mut (e9.trans e911) ntr
  have ht12 : upd H11 tr (HO.lst ([V.str (S gd), V.str (S m1), V.str (S w), v1, v2] ++ [V.str (S m3)])) tr = some (HO.lst [V.str (S gd), V.str (S m1), V.str (S w), v1, v2, V.str (S m3)]) := upd_same
  generalize upd H11 tr (HO.lst ([V.str (S gd), V.str (S m1), V.str (S w), v1, v2] ++ [V.str (S m3)])) = H12 at *
  have hd12 := e12 _ _ hd5
  have hf12 := e12 _ _ hf5
  repeat walk_at "mst"
  refine ⟨by show 1 ≤ sizeLine; decide, fun q1 nq1 => ?_⟩
  have e13 := Evl.Ex.new (o := HO.lst [V.str (S [49])]) nq1
  have hq1 : upd H12 q1 (HO.lst [V.str (S [49])]) q1 = some (HO.lst [V.str (S [49])]) := upd_same
  generalize upd H12 q1 (HO.lst [V.str (S [49])]) = H13 at *
  repeat walk_at "mst"
  refine ⟨by show 1 ≤ sizeLine; decide, fun q2 nq2 => ?_⟩
  have e14 := Evl.Ex.new (o := HO.tup [V.str (S [49])]) nq2
  have hq2 : upd H13 q2 (HO.tup [V.str (S [49])]) q2 = some (HO.tup [V.str (S [49])]) := upd_same
  generalize upd H13 q2 (HO.tup [V.str (S [49])]) = H14 at *
  repeat walk_at "mst"
  refine ⟨by show 0 ≤ sizeLine; decide, fun q3 nq3 => ?_⟩
  have e15 := Evl.Ex.new (o := HO.lst []) nq3
  have hq3 : upd H14 q3 (HO.lst []) q3 = some (HO.lst []) := upd_same
  generalize upd H14 q3 (HO.lst []) = H15 at *
  repeat walk_at "mst"
  refine ⟨by show 0 ≤ sizeLine; decide, fun q4 nq4 => ?_⟩
  have e16 := Evl.Ex.new (o := HO.tup []) nq4
  have hq4 : upd H15 q4 (HO.tup []) q4 = some (HO.tup []) := upd_same
  generalize upd H15 q4 (HO.tup []) = H16 at *
  have e126 := e13.trans (e14.trans (e15.trans e16))
  have hf16 := e126 _ _ hf12
  repeat walk_at "mst"
  refine ⟨by show 10 ≤ sizeLine; decide, fun q5 nq5 => ?_⟩
  have hq15 := e16 _ _ (e15 _ _ (e14 _ _ hq1))
  have hq25 := e16 _ _ (e15 _ _ hq2)
  have hq35 := e16 _ _ hq3
  have tr16 := e126 _ _ ht12
  have ntq : ∀ c, (∃ o, H16 c = some o ∧ ∀ xs : List V, o = HO.lst xs → xs.length ≤ 1) → c ≠ tr := by
    rintro c ⟨o, h, z⟩ rfl
    rw [tr16] at h
    injection h with h
    have := z _ h.symm
    exact absurd this (by show ¬ 6 ≤ 1; decide)
  have all10 : ∀ v ∈ ([V.non, V.int 5, V.bl true, V.ref q1, V.ref q2, V.ref q3, V.int 0, V.ref q4, V.int (-1), V.int x1] : List V), Knd K H16 v ∧ (∀ y, v ≠ .str y) ∧ v ≠ .ref tr := by
    intro v hv
    simp only [List.mem_cons, List.not_mem_nil, or_false] at hv
    rcases hv with rfl | rfl | rfl | rfl | rfl | rfl | rfl | rfl | rfl | rfl
    · exact ⟨.non, (by intro y h; cases h), (by intro h; cases h)⟩
    · exact ⟨.int 5, (by intro y h; cases h), (by intro h; cases h)⟩
    · exact ⟨.bl true, (by intro y h; cases h), (by intro h; cases h)⟩
    · exact ⟨.lst hq15, (by intro y h; cases h), fun h => ntq q1 ⟨_, hq15, fun xs h => by injection h with h; rw [← h]; decide⟩ (V.ref.inj h)⟩
    · exact ⟨.tup hq25, (by intro y h; cases h), fun h => ntq q2 ⟨_, hq25, fun xs h => by cases h⟩ (V.ref.inj h)⟩
    · exact ⟨.lst hq35, (by intro y h; cases h), fun h => ntq q3 ⟨_, hq35, fun xs h => by injection h with h; rw [← h]; decide⟩ (V.ref.inj h)⟩
    · exact ⟨.int 0, (by intro y h; cases h), (by intro h; cases h)⟩
    · exact ⟨.tup hq4, (by intro y h; cases h), fun h => ntq q4 ⟨_, hq4, fun xs h => by cases h⟩ (V.ref.inj h)⟩
    · exact ⟨.int (-1), (by intro y h; cases h), (by intro h; cases h)⟩
    · exact ⟨.int x1, (by intro y h; cases h), (by intro h; cases h)⟩
  generalize hL10 : ([V.non, V.int 5, V.bl true, V.ref q1, V.ref q2, V.ref q3, V.int 0, V.ref q4, V.int (-1), V.int x1] : List V) = L10 at *
  have l10 : L10.length = 10 := by rw [← hL10]; rfl
  have e17 := Evl.Ex.new (o := HO.lst L10) nq5
  have hq5 : upd H16 q5 (HO.lst L10) q5 = some (HO.lst L10) := upd_same
  generalize upd H16 q5 (HO.lst L10) = H17 at *
  have e127 := e126.trans e17
  have hd17 := e127 _ _ hd12
  have ht17 := e127 _ _ ht12
  repeat walk_at "mst"
  refine k_ixL (k_sq hd17) a7 ?_
  repeat walk_at "mst"
  obtain ⟨z, az, kz, nz, tz⟩ := at_knd (i := d7 % 10) l10 all10 (by omega) (by omega)
  refine k_ixL (k_sq hq5) az ?_
  repeat walk_at "mst"
  · show 6 < sizeLine; decide
  have kp1 : ∀ c o, H17 c = some o → c ≠ tr → upd H17 tr (HO.lst ([V.str (S gd), V.str (S m1), V.str (S w), v1, v2, V.str (S m3)] ++ [z])) c = some o := fun c o h n => (upd_ne n).trans h
  have ht18 : upd H17 tr (HO.lst ([V.str (S gd), V.str (S m1), V.str (S w), v1, v2, V.str (S m3)] ++ [z])) tr = some (HO.lst [V.str (S gd), V.str (S m1), V.str (S w), v1, v2, V.str (S m3), z]) := upd_same
  generalize upd H17 tr (HO.lst ([V.str (S gd), V.str (S m1), V.str (S w), v1, v2, V.str (S m3)] ++ [z])) = H18 at *
  have kz18 := (kz.ex e17).but tz kp1
  repeat walk_at "mst"
  · show 7 < sizeLine; decide
  have kp2 : ∀ c o, H18 c = some o → c ≠ tr → upd H18 tr (HO.lst ([V.str (S gd), V.str (S m1), V.str (S w), v1, v2, V.str (S m3), z] ++ [V.str (S gd)])) c = some o := fun c o h n => (upd_ne n).trans h
  have ht19 : upd H18 tr (HO.lst ([V.str (S gd), V.str (S m1), V.str (S w), v1, v2, V.str (S m3), z] ++ [V.str (S gd)])) tr = some (HO.lst [V.str (S gd), V.str (S m1), V.str (S w), v1, v2, V.str (S m3), z, V.str (S gd)]) := upd_same
  generalize upd H18 tr (HO.lst ([V.str (S gd), V.str (S m1), V.str (S w), v1, v2, V.str (S m3), z] ++ [V.str (S gd)])) = H19 at *
  have kz19 := kz18.but tz kp2
  have all8 : ∀ x ∈ [V.str (S gd), V.str (S m1), V.str (S w), v1, v2, V.str (S m3), z, V.str (S gd)], Ask K H19 x := by
    intro x hx
    simp only [List.mem_cons, List.not_mem_nil, or_false] at hx
    rcases hx with rfl | rfl | rfl | rfl | rfl | rfl | rfl | rfl
    · exact ask_S (by omega)
    · exact ask_S (by omega)
    · exact ask_S (by omega)
    · exact ask_tx tx1 (by decide)
    · exact ask_tx tx2 (by decide)
    · exact ask_S (by omega)
    · exact ask_no kz19 nz
    · exact ask_S (by omega)
  generalize [V.str (S gd), V.str (S m1), V.str (S w), v1, v2, V.str (S m3), z, V.str (S gd)] = TL at *
  repeat walk_at "mst"
  refine ⟨tr, rfl, ⟨_, k_sq ht19⟩, forK_list (xs := TL) (fun i σ H' => Ex H19 H' ∧ ∃ x5 : Option V, σ = [some (.ref a), some (.ref p1), some (.str (S gd)), some (.ref dp), some (.ref tr), x5]) ⟨Evl.Ex.refl _, _, rfl⟩ ?_ ?_ ?_⟩
  · rintro i σ H' _ ⟨e, _⟩; exact k_sq (e _ _ ht19)
  · rintro i x σ H' hx ⟨e, x5, rfl⟩
    have ak := (all8 x (List.mem_of_getElem? hx)).ex e
    repeat walk_at "mst"
    refine use_asked ak.1 ak.2 fun H'' e' => ?_
    repeat walk_at "mst"
    exact ⟨e.trans e', _, rfl⟩
  · rintro σ H' ⟨e, x5, rfl⟩
    repeat walk_at "mst"
    exact fin _ _ rfl
def top (i : Nat) : Stmt := PySem.Challenge.pw_sumsplay_k05_texts_of_no_number.main.body.getD i (.Pass ⟨0, 0, 0, 0⟩)
abbrev s_law_digits : Stmt := top 21
abbrev R_law_digits : List Str := ["cell", "count", "row", "k", "seed"]
theorem sc_law_digits : FnScope R_law_digits ["cell", "count"] (defScope s_law_digits) := ⟨rfl, rfl, rfl, by decide +kernel, rfl, by decide +kernel, by decide +kernel⟩
abbrev ad_law_digits (K : PySem.W.Frag) : Addr := He.ga K "_law_digits"
abbrev s_law_pair : Stmt := top 24
abbrev R_law_pair : List Str := ["cell", "shape", "digits", "power", "most", "top", "size"]
theorem sc_law_pair : FnScope R_law_pair ["cell", "shape"] (defScope s_law_pair) := ⟨rfl, rfl, rfl, by decide +kernel, rfl, by decide +kernel, by decide +kernel⟩
abbrev ad_law_pair (K : PySem.W.Frag) : Addr := He.ga K "_law_pair"
abbrev s_law_cell : Stmt := top 20
abbrev R_law_cell : List Str := ["script", "k", "mixed", "cell"]
theorem sc_law_cell : FnScope R_law_cell ["script", "k"] (defScope s_law_cell) := ⟨rfl, rfl, rfl, by decide +kernel, rfl, by decide +kernel, by decide +kernel⟩
abbrev ad_law_cell (K : PySem.W.Frag) : Addr := He.ga K "_law_cell"
abbrev s_law_plain : Stmt := top 23
abbrev R_law_plain : List Str := ["top", "power", "k"]
theorem sc_law_plain : FnScope R_law_plain ["top", "power"] (defScope s_law_plain) := ⟨rfl, rfl, rfl, by decide +kernel, rfl, by decide +kernel, by decide +kernel⟩
abbrev ad_law_plain (K : PySem.W.Frag) : Addr := He.ga K "_law_plain"
abbrev s_law_text : Stmt := top 26
abbrev R_law_text : List Str := ["top", "power", "plain"]
theorem sc_law_text : FnScope R_law_text ["top", "power"] (defScope s_law_text) := ⟨rfl, rfl, rfl, by decide +kernel, rfl, by decide +kernel, by decide +kernel⟩
abbrev ad_law_text (K : PySem.W.Frag) : Addr := He.ga K "_law_text"
abbrev s_law_spoilt : Stmt := top 29
abbrev R_law_spoilt : List Str := ["text", "digits", "chars", "char", "place"]
theorem sc_law_spoilt : FnScope R_law_spoilt ["text", "digits"] (defScope s_law_spoilt) := ⟨rfl, rfl, rfl, by decide +kernel, rfl, by decide +kernel, by decide +kernel⟩
abbrev ad_law_spoilt (K : PySem.W.Frag) : Addr := He.ga K "_law_spoilt"
abbrev s_law_odd : Stmt := top 30
abbrev R_law_odd : List Str := ["k", "texts"]
theorem sc_law_odd : FnScope R_law_odd ["k"] (defScope s_law_odd) := ⟨rfl, rfl, rfl, by decide +kernel, rfl, by decide +kernel, by decide +kernel⟩
abbrev ad_law_odd (K : PySem.W.Frag) : Addr := He.ga K "_law_odd"
abbrev s_law_joined : Stmt := top 31
abbrev R_law_joined : List Str := ["digits", "cell", "word"]
theorem sc_law_joined : FnScope R_law_joined ["digits", "cell"] (defScope s_law_joined) := ⟨rfl, rfl, rfl, by decide +kernel, rfl, by decide +kernel, by decide +kernel⟩
abbrev ad_law_joined (K : PySem.W.Frag) : Addr := He.ga K "_law_joined"
abbrev s_law_is_digits : Stmt := top 27
abbrev R_law_is_digits : List Str := ["word", "char"]
theorem sc_law_is_digits : FnScope R_law_is_digits ["word"] (defScope s_law_is_digits) := ⟨rfl, rfl, rfl, by decide +kernel, rfl, by decide +kernel, by decide +kernel⟩
abbrev ad_law_is_digits (K : PySem.W.Frag) : Addr := He.ga K "_law_is_digits"
abbrev s_law_reading : Stmt := top 28
abbrev R_law_reading : List Str := ["text", "body", "words", "top", "powers", "k"]
theorem sc_law_reading : FnScope R_law_reading ["text"] (defScope s_law_reading) := ⟨rfl, rfl, rfl, by decide +kernel, rfl, by decide +kernel, by decide +kernel⟩
abbrev ad_law_reading (K : PySem.W.Frag) : Addr := He.ga K "_law_reading"
abbrev s_are_digits : Stmt := top 17
abbrev R_are_digits : List Str := ["text", "sign"]
theorem sc_are_digits : FnScope R_are_digits ["text"] (defScope s_are_digits) := ⟨rfl, rfl, rfl, by decide +kernel, rfl, by decide +kernel, by decide +kernel⟩
abbrev ad_are_digits (K : PySem.W.Frag) : Addr := He.ga K "_are_digits"
abbrev s_is_whole : Stmt := top 8
abbrev R_is_whole : List Str := ["thing", "least", "most"]
theorem sc_is_whole : FnScope R_is_whole ["thing", "least", "most"] (defScope s_is_whole) := ⟨rfl, rfl, rfl, by decide +kernel, rfl, by decide +kernel, by decide +kernel⟩
abbrev ad_is_whole (K : PySem.W.Frag) : Addr := He.ga K "is_whole"
abbrev s_read_top : Stmt := top 16
abbrev R_read_top : List Str := ["text", "digits", "top"]
theorem sc_read_top : FnScope R_read_top ["text"] (defScope s_read_top) := ⟨rfl, rfl, rfl, by decide +kernel, rfl, by decide +kernel, by decide +kernel⟩
abbrev ad_read_top (K : PySem.W.Frag) : Addr := He.ga K "_read_top"
abbrev s_read_power : Stmt := top 18
abbrev R_read_power : List Str := ["text", "power"]
theorem sc_read_power : FnScope R_read_power ["text"] (defScope s_read_power) := ⟨rfl, rfl, rfl, by decide +kernel, rfl, by decide +kernel, by decide +kernel⟩
abbrev ad_read_power (K : PySem.W.Frag) : Addr := He.ga K "_read_power"
abbrev s_plain : Stmt := top 14
abbrev R_plain : List Str := ["top", "power"]
theorem sc_plain : FnScope R_plain ["top", "power"] (defScope s_plain) := ⟨rfl, rfl, rfl, by decide +kernel, rfl, by decide +kernel, by decide +kernel⟩
abbrev ad_plain (K : PySem.W.Frag) : Addr := He.ga K "_plain"
abbrev s_Dyadic_d_init : Stmt := inClass (top 13) 0
abbrev R_Dyadic_d_init : List Str := ["self", "top", "power"]
theorem sc_Dyadic_d_init : FnScope R_Dyadic_d_init ["self", "top", "power"] (defScope s_Dyadic_d_init) := ⟨rfl, rfl, rfl, by decide +kernel, rfl, by decide +kernel, by decide +kernel⟩
abbrev ad_Dyadic_d_init (K : PySem.W.Frag) : Addr := He.ma K (He.ga K "Dyadic") "__init__"
abbrev s_Dyadic_m_text : Stmt := inClass (top 13) 9
abbrev R_Dyadic_m_text : List Str := ["self"]
theorem sc_Dyadic_m_text : FnScope R_Dyadic_m_text ["self"] (defScope s_Dyadic_m_text) := ⟨rfl, rfl, rfl, by decide +kernel, rfl, by decide +kernel, by decide +kernel⟩
abbrev ad_Dyadic_m_text (K : PySem.W.Frag) : Addr := He.ma K (He.ga K "Dyadic") "text"
abbrev s_Dyadic_m_from_text : Stmt := inClass (top 13) 11
abbrev R_Dyadic_m_from_text : List Str := ["text", "top_text", "slash", "bottom_text", "top", "power", "number"]
theorem sc_Dyadic_m_from_text : FnScope R_Dyadic_m_from_text ["text"] (defScope s_Dyadic_m_from_text) := ⟨rfl, rfl, rfl, by decide +kernel, rfl, by decide +kernel, by decide +kernel⟩
abbrev ad_Dyadic_m_from_text (K : PySem.W.Frag) : Addr := statG K "Dyadic" "from_text"
abbrev s_law_is_integer : Stmt := top 22
abbrev R_law_is_integer : List Str := ["thing"]
theorem sc_law_is_integer : FnScope R_law_is_integer ["thing"] (defScope s_law_is_integer) := ⟨rfl, rfl, rfl, by decide +kernel, rfl, by decide +kernel, by decide +kernel⟩
abbrev ad_law_is_integer (K : PySem.W.Frag) : Addr := He.ga K "_law_is_integer"
abbrev s_Dyadic_m_top : Stmt := inClass (top 13) 1
abbrev R_Dyadic_m_top : List Str := ["self"]
theorem sc_Dyadic_m_top : FnScope R_Dyadic_m_top ["self"] (defScope s_Dyadic_m_top) := ⟨rfl, rfl, rfl, by decide +kernel, rfl, by decide +kernel, by decide +kernel⟩
abbrev ad_Dyadic_m_top (K : PySem.W.Frag) : Addr := propG K "Dyadic" "top"
abbrev s_Dyadic_m_power : Stmt := inClass (top 13) 2
abbrev R_Dyadic_m_power : List Str := ["self"]
theorem sc_Dyadic_m_power : FnScope R_Dyadic_m_power ["self"] (defScope s_Dyadic_m_power) := ⟨rfl, rfl, rfl, by decide +kernel, rfl, by decide +kernel, by decide +kernel⟩
abbrev ad_Dyadic_m_power (K : PySem.W.Frag) : Addr := propG K "Dyadic" "power"
abbrev s_law_holds : Stmt := top 25
abbrev R_law_holds : List Str := ["number", "top", "power", "plain"]
theorem sc_law_holds : FnScope R_law_holds ["number", "top", "power"] (defScope s_law_holds) := ⟨rfl, rfl, rfl, by decide +kernel, rfl, by decide +kernel, by decide +kernel⟩
abbrev ad_law_holds (K : PySem.W.Frag) : Addr := He.ga K "_law_holds"
abbrev s_law_asked : Stmt := top 32
abbrev R_law_asked : List Str := ["text", "due", "number", "e"]
theorem sc_law_asked : FnScope R_law_asked ["text"] (defScope s_law_asked) := ⟨rfl, rfl, rfl, by decide +kernel, rfl, by decide +kernel, by decide +kernel⟩
abbrev ad_law_asked (K : PySem.W.Frag) : Addr := He.ga K "_law_asked"
abbrev s_law : Stmt := top 33
abbrev R_law : List Str := ["script", "pair", "good", "digits", "tried", "text"]
theorem sc_law : FnScope R_law ["script"] (defScope s_law) := ⟨rfl, rfl, rfl, by decide +kernel, rfl, by decide +kernel, by decide +kernel⟩
abbrev ad_law (K : PySem.W.Frag) : Addr := He.ga K "law"
structure Txt (K : PySem.W.Frag) (mg : Str → Option Value) : Prop where
  g_BadText : mg "BadText" = some (.ref (He.ga K "BadText"))
  g_BadValue : mg "BadValue" = some (.ref (He.ga K "BadValue"))
  g_Dyadic : mg "Dyadic" = some (.ref (He.ga K "Dyadic"))
  g_NoMove : mg "NoMove" = some (.ref (He.ga K "NoMove"))
  g_PlayError : mg "PlayError" = some (.ref (He.ga K "PlayError"))
  g_Unknown : mg "Unknown" = some (.ref (He.ga K "Unknown"))
  g__are_digits : mg "_are_digits" = some (.ref (He.ga K "_are_digits"))
  g__law_asked : mg "_law_asked" = some (.ref (He.ga K "_law_asked"))
  g__law_cell : mg "_law_cell" = some (.ref (He.ga K "_law_cell"))
  g__law_digits : mg "_law_digits" = some (.ref (He.ga K "_law_digits"))
  g__law_holds : mg "_law_holds" = some (.ref (He.ga K "_law_holds"))
  g__law_is_digits : mg "_law_is_digits" = some (.ref (He.ga K "_law_is_digits"))
  g__law_is_integer : mg "_law_is_integer" = some (.ref (He.ga K "_law_is_integer"))
  g__law_joined : mg "_law_joined" = some (.ref (He.ga K "_law_joined"))
  g__law_odd : mg "_law_odd" = some (.ref (He.ga K "_law_odd"))
  g__law_pair : mg "_law_pair" = some (.ref (He.ga K "_law_pair"))
  g__law_plain : mg "_law_plain" = some (.ref (He.ga K "_law_plain"))
  g__law_reading : mg "_law_reading" = some (.ref (He.ga K "_law_reading"))
  g__law_spoilt : mg "_law_spoilt" = some (.ref (He.ga K "_law_spoilt"))
  g__law_text : mg "_law_text" = some (.ref (He.ga K "_law_text"))
  g__plain : mg "_plain" = some (.ref (He.ga K "_plain"))
  g__read_power : mg "_read_power" = some (.ref (He.ga K "_read_power"))
  g__read_top : mg "_read_top" = some (.ref (He.ga K "_read_top"))
  g_is_whole : mg "is_whole" = some (.ref (He.ga K "is_whole"))
  g_law : mg "law" = some (.ref (He.ga K "law"))
  z_ValueError : mg "ValueError" = none
  z_abs : mg "abs" = none
  z_all : mg "all" = none
  z_bool : mg "bool" = none
  z_int : mg "int" = none
  z_isinstance : mg "isinstance" = none
  z_len : mg "len" = none
  z_min : mg "min" = none
  z_range : mg "range" = none
  z_str : mg "str" = none
  z_type : mg "type" = none
  c_LONGEST_TOP : ∃ t, mg "LONGEST_TOP" = some (.int (14) t)
  c_MOST_POWER : ∃ t, mg "MOST_POWER" = some (.int (40) t)
  c_MOST_TOP : ∃ t, mg "MOST_TOP" = some (.int (1000000000000) t)
  cl_Dyadic : Cls K (He.ga K "Dyadic")
  x_BadText : PySem.W.excIn K (He.ga K "BadText") He.veBase "ValueError.__new__" = true ∧ PySem.W.keepIn K (.ref (He.ga K "BadText")) = true ∧ PySem.W.subIn K (.ref (He.ga K "BadText")) (.type "BaseException") = some true ∧ PySem.W.typeIn K (.ref (He.ga K "BadText")) = some (.type "type")
  x_BadValue : PySem.W.excIn K (He.ga K "BadValue") He.veBase "ValueError.__new__" = true ∧ PySem.W.keepIn K (.ref (He.ga K "BadValue")) = true ∧ PySem.W.subIn K (.ref (He.ga K "BadValue")) (.type "BaseException") = some true ∧ PySem.W.typeIn K (.ref (He.ga K "BadValue")) = some (.type "type")
  xc_BadText : ExcC K (He.ga K "BadText")
  em_BadText_PlayError : PySem.W.exmOne K (.ref (He.ga K "BadText")) (.ref (He.ga K "PlayError")) = some true
  ic_Dyadic : C8.InsC K (He.ga K "Dyadic")
  ki_BadText_BadText : PySem.W.kitOne K (.ref (He.ga K "BadText")) (.ref (He.ga K "BadText")) = some true
  ki_BadText_BadValue : PySem.W.kitOne K (.ref (He.ga K "BadText")) (.ref (He.ga K "BadValue")) = some false
  ki_BadText_NoMove : PySem.W.kitOne K (.ref (He.ga K "BadText")) (.ref (He.ga K "NoMove")) = some false
  ki_BadText_Unknown : PySem.W.kitOne K (.ref (He.ga K "BadText")) (.ref (He.ga K "Unknown")) = some false
  ki_BadText_ValueError : PySem.W.kitOne K (.ref (He.ga K "BadText")) (.type "ValueError") = some true
  mt_Dyadic_text : Meth K (He.ga K "Dyadic") "text" (He.ma K (He.ga K "Dyadic") "text")
  mk_Dyadic : Mk K (He.ga K "Dyadic") (He.ma K (He.ga K "Dyadic") "__init__")
  na_Dyadic__power : NoAttr K (He.ga K "Dyadic") "_power"
  na_Dyadic__top : NoAttr K (He.ga K "Dyadic") "_top"
  pr_Dyadic_power : PropOf K (He.ga K "Dyadic") "power" (He.ma K (He.ga K "Dyadic") "power") (propG K "Dyadic" "power")
  pr_Dyadic_top : PropOf K (He.ga K "Dyadic") "top" (He.ma K (He.ga K "Dyadic") "top") (propG K "Dyadic" "top")
  st_Dyadic_from_text : SMet K (He.ga K "Dyadic") "from_text" (He.ma K (He.ga K "Dyadic") "from_text") (statG K "Dyadic" "from_text")
  d_law_digits : ∃ fd, FunD K "_law_digits" "_law_digits" (defArgs s_law_digits) (defBody s_law_digits) (defScope s_law_digits) [] [] (ad_law_digits K) fd
  d_law_pair : ∃ fd, FunD K "_law_pair" "_law_pair" (defArgs s_law_pair) (defBody s_law_pair) (defScope s_law_pair) [] [] (ad_law_pair K) fd
  d_law_cell : ∃ fd, FunD K "_law_cell" "_law_cell" (defArgs s_law_cell) (defBody s_law_cell) (defScope s_law_cell) [] [] (ad_law_cell K) fd
  d_law_plain : ∃ fd, FunD K "_law_plain" "_law_plain" (defArgs s_law_plain) (defBody s_law_plain) (defScope s_law_plain) [] [] (ad_law_plain K) fd
  d_law_text : ∃ fd, FunD K "_law_text" "_law_text" (defArgs s_law_text) (defBody s_law_text) (defScope s_law_text) [] [] (ad_law_text K) fd
  d_law_spoilt : ∃ fd, FunD K "_law_spoilt" "_law_spoilt" (defArgs s_law_spoilt) (defBody s_law_spoilt) (defScope s_law_spoilt) [] [] (ad_law_spoilt K) fd
  d_law_odd : ∃ fd, FunD K "_law_odd" "_law_odd" (defArgs s_law_odd) (defBody s_law_odd) (defScope s_law_odd) [] [] (ad_law_odd K) fd
  d_law_joined : ∃ fd, FunD K "_law_joined" "_law_joined" (defArgs s_law_joined) (defBody s_law_joined) (defScope s_law_joined) [] [] (ad_law_joined K) fd
  d_law_is_digits : ∃ fd, FunD K "_law_is_digits" "_law_is_digits" (defArgs s_law_is_digits) (defBody s_law_is_digits) (defScope s_law_is_digits) [] [] (ad_law_is_digits K) fd
  d_law_reading : ∃ fd, FunD K "_law_reading" "_law_reading" (defArgs s_law_reading) (defBody s_law_reading) (defScope s_law_reading) [] [] (ad_law_reading K) fd
  d_are_digits : ∃ fd, FunD K "_are_digits" "_are_digits" (defArgs s_are_digits) (defBody s_are_digits) (defScope s_are_digits) [] [] (ad_are_digits K) fd
  d_is_whole : ∃ fd, FunD K "is_whole" "is_whole" (defArgs s_is_whole) (defBody s_is_whole) (defScope s_is_whole) [] [] (ad_is_whole K) fd
  d_read_top : ∃ fd, FunD K "_read_top" "_read_top" (defArgs s_read_top) (defBody s_read_top) (defScope s_read_top) [] [] (ad_read_top K) fd
  d_read_power : ∃ fd, FunD K "_read_power" "_read_power" (defArgs s_read_power) (defBody s_read_power) (defScope s_read_power) [] [] (ad_read_power K) fd
  d_plain : ∃ fd, FunD K "_plain" "_plain" (defArgs s_plain) (defBody s_plain) (defScope s_plain) [] [] (ad_plain K) fd
  d_Dyadic_d_init : ∃ fd, FunD K "__init__" "Dyadic.__init__" (defArgs s_Dyadic_d_init) (defBody s_Dyadic_d_init) (defScope s_Dyadic_d_init) [.int 0] [] (ad_Dyadic_d_init K) fd
  d_Dyadic_m_text : ∃ fd, FunD K "text" "Dyadic.text" (defArgs s_Dyadic_m_text) (defBody s_Dyadic_m_text) (defScope s_Dyadic_m_text) [] [] (ad_Dyadic_m_text K) fd
  d_Dyadic_m_from_text : ∃ fd, FunD K "from_text" "Dyadic.from_text" (defArgs s_Dyadic_m_from_text) (defBody s_Dyadic_m_from_text) (defScope s_Dyadic_m_from_text) [] [] (ad_Dyadic_m_from_text K) fd
  d_law_is_integer : ∃ fd, FunD K "_law_is_integer" "_law_is_integer" (defArgs s_law_is_integer) (defBody s_law_is_integer) (defScope s_law_is_integer) [] [] (ad_law_is_integer K) fd
  d_Dyadic_m_top : ∃ fd, FunD K "top" "Dyadic.top" (defArgs s_Dyadic_m_top) (defBody s_Dyadic_m_top) (defScope s_Dyadic_m_top) [] [] (ad_Dyadic_m_top K) fd
  d_Dyadic_m_power : ∃ fd, FunD K "power" "Dyadic.power" (defArgs s_Dyadic_m_power) (defBody s_Dyadic_m_power) (defScope s_Dyadic_m_power) [] [] (ad_Dyadic_m_power K) fd
  d_law_holds : ∃ fd, FunD K "_law_holds" "_law_holds" (defArgs s_law_holds) (defBody s_law_holds) (defScope s_law_holds) [] [] (ad_law_holds K) fd
  d_law_asked : ∃ fd, FunD K "_law_asked" "_law_asked" (defArgs s_law_asked) (defBody s_law_asked) (defScope s_law_asked) [] [] (ad_law_asked K) fd
  d_law : ∃ fd, FunD K "law" "law" (defArgs s_law) (defBody s_law) (defScope s_law) [] [] (ad_law K) fd
theorem Txt.FDyadic {K : PySem.W.Frag} {mg : Str → Option Value} (T : Txt K mg) : FDyadic K := ⟨T.cl_Dyadic, T.na_Dyadic__top, T.na_Dyadic__power⟩
theorem Txt.FBadText {K : PySem.W.Frag} {mg : Str → Option Value} (T : Txt K mg) : FBadText K := ⟨T.em_BadText_PlayError, T.ki_BadText_BadValue, T.ki_BadText_NoMove, T.ki_BadText_Unknown, T.ki_BadText_BadText, T.ki_BadText_ValueError⟩
abbrev O_law_digits (P : Program) (w : World) (K : PySem.W.Frag) (mg : Str → Option Value) (base : Heap) : Prop := DefOk P w K mg base CX0 1 "_law_digits" "_law_digits" s_law_digits [] (ad_law_digits K) ["cell", "count"] (sp_law_digits K)
abbrev O_law_pair (P : Program) (w : World) (K : PySem.W.Frag) (mg : Str → Option Value) (base : Heap) : Prop := DefOk P w K mg base CX0 2 "_law_pair" "_law_pair" s_law_pair [] (ad_law_pair K) ["cell", "shape"] (sp_law_pair K)
abbrev O_law_cell (P : Program) (w : World) (K : PySem.W.Frag) (mg : Str → Option Value) (base : Heap) : Prop := DefOk P w K mg base CX0 1 "_law_cell" "_law_cell" s_law_cell [] (ad_law_cell K) ["script", "k"] (sp_law_cell K)
abbrev O_law_plain (P : Program) (w : World) (K : PySem.W.Frag) (mg : Str → Option Value) (base : Heap) : Prop := DefOk P w K mg base CX0 1 "_law_plain" "_law_plain" s_law_plain [] (ad_law_plain K) ["top", "power"] (sp_law_plain K)
abbrev O_law_text (P : Program) (w : World) (K : PySem.W.Frag) (mg : Str → Option Value) (base : Heap) : Prop := DefOk P w K mg base CX0 2 "_law_text" "_law_text" s_law_text [] (ad_law_text K) ["top", "power"] (sp_law_text K)
abbrev O_law_spoilt (P : Program) (w : World) (K : PySem.W.Frag) (mg : Str → Option Value) (base : Heap) : Prop := DefOk P w K mg base CX0 1 "_law_spoilt" "_law_spoilt" s_law_spoilt [] (ad_law_spoilt K) ["text", "digits"] (sp_law_spoilt K)
abbrev O_law_odd (P : Program) (w : World) (K : PySem.W.Frag) (mg : Str → Option Value) (base : Heap) : Prop := DefOk P w K mg base CX0 1 "_law_odd" "_law_odd" s_law_odd [] (ad_law_odd K) ["k"] (sp_law_odd K)
abbrev O_law_joined (P : Program) (w : World) (K : PySem.W.Frag) (mg : Str → Option Value) (base : Heap) : Prop := DefOk P w K mg base CX0 1 "_law_joined" "_law_joined" s_law_joined [] (ad_law_joined K) ["digits", "cell"] (sp_law_joined K)
abbrev O_law_is_digits (P : Program) (w : World) (K : PySem.W.Frag) (mg : Str → Option Value) (base : Heap) : Prop := DefOk P w K mg base CX0 1 "_law_is_digits" "_law_is_digits" s_law_is_digits [] (ad_law_is_digits K) ["word"] (sp_law_is_digits K)
abbrev O_law_reading (P : Program) (w : World) (K : PySem.W.Frag) (mg : Str → Option Value) (base : Heap) : Prop := DefOk P w K mg base CX0 3 "_law_reading" "_law_reading" s_law_reading [] (ad_law_reading K) ["text"] (sp_law_reading K)
abbrev O_are_digits (P : Program) (w : World) (K : PySem.W.Frag) (mg : Str → Option Value) (base : Heap) : Prop := DefOk P w K mg base CX0 1 "_are_digits" "_are_digits" s_are_digits [] (ad_are_digits K) ["text"] (sp_are_digits K)
abbrev O_is_whole (P : Program) (w : World) (K : PySem.W.Frag) (mg : Str → Option Value) (base : Heap) : Prop := DefOk P w K mg base CX0 1 "is_whole" "is_whole" s_is_whole [] (ad_is_whole K) ["thing", "least", "most"] (sp_is_whole K)
abbrev O_read_top (P : Program) (w : World) (K : PySem.W.Frag) (mg : Str → Option Value) (base : Heap) : Prop := DefOk P w K mg base CX0 2 "_read_top" "_read_top" s_read_top [] (ad_read_top K) ["text"] (sp_read_top K)
abbrev O_read_power (P : Program) (w : World) (K : PySem.W.Frag) (mg : Str → Option Value) (base : Heap) : Prop := DefOk P w K mg base CX0 1 "_read_power" "_read_power" s_read_power [] (ad_read_power K) ["text"] (sp_read_power K)
abbrev O_plain (P : Program) (w : World) (K : PySem.W.Frag) (mg : Str → Option Value) (base : Heap) : Prop := DefOk P w K mg base CX0 1 "_plain" "_plain" s_plain [] (ad_plain K) ["top", "power"] (sp_plain K)
abbrev O_Dyadic_d_init (P : Program) (w : World) (K : PySem.W.Frag) (mg : Str → Option Value) (base : Heap) : Prop := DefOk P w K mg base (L2.CX P w) 2 "__init__" "Dyadic.__init__" s_Dyadic_d_init [.int 0] (ad_Dyadic_d_init K) ["self", "top", "power"] (sp_Dyadic_d_init K)
abbrev O_Dyadic_m_text (P : Program) (w : World) (K : PySem.W.Frag) (mg : Str → Option Value) (base : Heap) : Prop := DefOk P w K mg base CX0 1 "text" "Dyadic.text" s_Dyadic_m_text [] (ad_Dyadic_m_text K) ["self"] (sp_Dyadic_m_text K)
abbrev O_Dyadic_m_from_text (P : Program) (w : World) (K : PySem.W.Frag) (mg : Str → Option Value) (base : Heap) : Prop := DefOk P w K mg base (L2.CX P w) 4 "from_text" "Dyadic.from_text" s_Dyadic_m_from_text [] (ad_Dyadic_m_from_text K) ["text"] (sp_Dyadic_m_from_text K)
abbrev O_law_is_integer (P : Program) (w : World) (K : PySem.W.Frag) (mg : Str → Option Value) (base : Heap) : Prop := DefOk P w K mg base CX0 1 "_law_is_integer" "_law_is_integer" s_law_is_integer [] (ad_law_is_integer K) ["thing"] (sp_law_is_integer K)
abbrev O_Dyadic_m_top (P : Program) (w : World) (K : PySem.W.Frag) (mg : Str → Option Value) (base : Heap) : Prop := DefOk P w K mg base CX0 1 "top" "Dyadic.top" s_Dyadic_m_top [] (ad_Dyadic_m_top K) ["self"] (sp_Dyadic_m_top K)
abbrev O_Dyadic_m_power (P : Program) (w : World) (K : PySem.W.Frag) (mg : Str → Option Value) (base : Heap) : Prop := DefOk P w K mg base CX0 1 "power" "Dyadic.power" s_Dyadic_m_power [] (ad_Dyadic_m_power K) ["self"] (sp_Dyadic_m_power K)
abbrev O_law_holds (P : Program) (w : World) (K : PySem.W.Frag) (mg : Str → Option Value) (base : Heap) : Prop := DefOk P w K mg base CX0 3 "_law_holds" "_law_holds" s_law_holds [] (ad_law_holds K) ["number", "top", "power"] (sp_law_holds K)
abbrev O_law_asked (P : Program) (w : World) (K : PySem.W.Frag) (mg : Str → Option Value) (base : Heap) : Prop := DefOk P w K mg base CX0 5 "_law_asked" "_law_asked" s_law_asked [] (ad_law_asked K) ["text"] (sp_law_asked K)
abbrev O_law (P : Program) (w : World) (K : PySem.W.Frag) (mg : Str → Option Value) (base : Heap) : Prop := DefOk P w K mg base CX0 6 "law" "law" s_law [] (ad_law K) ["script"] (sp_law K)
theorem ok_law_digits {P : Program} {w : World} {K : PySem.W.Frag} {mg : Str → Option Value} {base : Heap} (T : Txt K mg)  : O_law_digits P w K mg base := by
  obtain ⟨fd, X⟩ := T.d_law_digits
  refine ⟨fd, X, X.ok sc_law_digits (fun vs H Q E h => len_law_digits h) (fun cdv A outer s H vs Q E hr h => ⟨t_law_digits K E, PSs.nox ?_, pure_law_digits vs H Q E h⟩)⟩
  exact (pss_cons (ps_set (i := 2) sc_law_digits.nd rfl (Or.inl rfl) (pe_lst pa_nil))
      (pss_cons (ps_if (pt_cmpR op_ge (pv 0) (pe_op op_pow pe_int pe_int) (nomark _)) (pss_cons (ps_for PassesOwn.never rfl (pi_range1 rfl T.z_range (pa_cons (pv 1) pa_nil)) (pg_name (i := 3) sc_law_digits.nd rfl (Or.inl rfl))
      (pss_cons (ps_expr (pe_bm PySem.F.plainAttrs_list PySem.F.slot_list_append PySem.F.type_list_append mt_append (pv 2) (pa_cons (pe_op op_mod (pe_callTy cr_intI rfl T.z_int (by decide +kernel) (pa_cons (pv 0) pa_nil)) pe_int) pa_nil)))
      (pss_one (ps_set (i := 0) sc_law_digits.nd rfl (Or.inl rfl) (pe_op op_fdiv (pv 0) pe_int)))))
      (pss_one (ps_ret (pv 2)))) pss_nil)
      (pss_cons (ps_set (i := 4) sc_law_digits.nd rfl (Or.inl rfl) (pe_op op_mod (pe_callTy cr_intI rfl T.z_int (by decide +kernel) (pa_cons (pe_op op_add (pe_op op_mul (pv 0) pe_int) pe_int) pa_nil)) pe_int))
      (pss_cons (ps_for PassesOwn.never rfl (pi_range1 rfl T.z_range (pa_cons (pv 1) pa_nil)) (pg_name (i := 3) sc_law_digits.nd rfl (Or.inl rfl))
      (pss_cons (ps_set (i := 4) sc_law_digits.nd rfl (Or.inl rfl) (pe_op op_mod (pe_callTy cr_intI rfl T.z_int (by decide +kernel) (pa_cons (pe_op op_add (pe_op op_add (pe_op op_mul (pv 4) pe_int) (pe_op op_mul pe_int (pv 3))) pe_int) pa_nil)) pe_int))
      (pss_one (ps_expr (pe_bm PySem.F.plainAttrs_list PySem.F.slot_list_append PySem.F.type_list_append mt_append (pv 2) (pa_cons (pe_op op_mod (pe_callTy cr_intI rfl T.z_int (by decide +kernel) (pa_cons (pe_op op_fdiv (pv 4) pe_int) pa_nil)) pe_int) pa_nil))))))
      (pss_one (ps_ret (pv 2)))))))
theorem ok_law_pair {P : Program} {w : World} {K : PySem.W.Frag} {mg : Str → Option Value} {base : Heap} (T : Txt K mg) (D_law_digits : O_law_digits P w K mg base) : O_law_pair P w K mg base := by
  obtain ⟨fd_law_digits, X_law_digits, G_law_digits⟩ := D_law_digits.ex
  have K_law_digits := X_law_digits.kp
  have B_law_digits := X_law_digits.bindsN (ps := ["cell", "count"]) fun _ _ _ _ _ _ us hl => match us, hl with | [_, _], _ => rfl
  have V_law_digits : Vals [] [] := .nil
  obtain ⟨fd, X⟩ := T.d_law_pair
  refine ⟨fd, X, X.ok sc_law_pair (fun vs H Q E h => len_law_pair h) (fun cdv A outer s H vs Q E hr h => ⟨t_law_pair K E, PSs.nox ?_, pure_law_pair vs H Q E h⟩)⟩
  exact (pss_cons (ps_set (i := 2) sc_law_pair.nd rfl (Or.inl rfl) (pe_call G_law_digits (hr.mono (by decide)) rfl T.g__law_digits K_law_digits B_law_digits V_law_digits pass0 (pa_cons (pv 1) (pa_cons pe_int pa_nil))))
      (pss_cons (ps_set (i := 3) sc_law_pair.nd rfl (Or.inl rfl) (pe_op op_mod (pe_callTy cr_intI rfl T.z_int (by decide +kernel) (pa_cons (pe_ix ix_list (pv 2) pe_int (fun _ _ => rfl)) pa_nil)) pe_int))
      (pss_cons (ps_set (i := 4) sc_law_pair.nd rfl (Or.inl rfl) (pe_callB (cr_min2 rfl) rfl T.z_min (by decide +kernel) (pa_cons (pe_op op_pow pe_int pe_int) (pa_cons (pe_op op_shl pe_int (pe_op op_mod (pe_callTy cr_intI rfl T.z_int (by decide +kernel) (pa_cons (pe_ix ix_list (pv 2) pe_int (fun _ _ => rfl)) pa_nil)) pe_int)) pa_nil))))
      (pss_cons (ps_set (i := 5) sc_law_pair.nd rfl (Or.inl rfl) (pe_op op_sub (pe_op op_mod (pe_callTy cr_intI rfl T.z_int (by decide +kernel) (pa_cons (pv 0) pa_nil)) (pe_op op_add (pe_op op_mul pe_int (pv 4)) pe_int)) (pv 4)))
      (Evl.pss_cut (ps_if (pt_cmpR op_eq (pe_op op_mod (pe_callTy cr_intI rfl T.z_int (by decide +kernel) (pa_cons (pe_ix ix_list (pv 2) pe_int (fun _ _ => rfl)) pa_nil)) pe_int) pe_int (nomark _)) (pss_cons (ps_set (i := 6) sc_law_pair.nd rfl (Or.inl rfl) (pe_op op_shl (pe_op op_shr (pe_callB cr_absI rfl T.z_abs (by decide +kernel) (pa_cons (pv 5) pa_nil)) (pe_op op_mod (pe_callTy cr_intI rfl T.z_int (by decide +kernel) (pa_cons (pe_ix ix_list (pv 2) pe_int (fun _ _ => rfl)) pa_nil)) pe_int)) (pe_op op_mod (pe_callTy cr_intI rfl T.z_int (by decide +kernel) (pa_cons (pe_ix ix_list (pv 2) pe_int (fun _ _ => rfl)) pa_nil)) pe_int)))
      (pss_one (ps_set (i := 5) sc_law_pair.nd rfl (Or.inl rfl) (pe_ifExp (pt_cmpR op_gt (pv 5) pe_int (nomark _)) (pv 6) (pe_un un_neg (pv 6)))))) pss_nil)
      (Evl.pss_cut (ps_if (pt_cmpR op_eq (pe_op op_mod (pe_callTy cr_intI rfl T.z_int (by decide +kernel) (pa_cons (pe_ix ix_list (pv 2) pe_int (fun _ _ => rfl)) pa_nil)) pe_int) pe_int (nomark _)) (pss_one (ps_set (i := 5) sc_law_pair.nd rfl (Or.inl rfl) (pe_ix ix_list (pe_lst (pa_cons pe_int (pa_cons pe_int (pa_cons (pe_un un_neg pe_int) (pa_cons (pe_op op_pow pe_int pe_int) (pa_cons (pe_un un_neg (pe_op op_pow pe_int pe_int)) (pa_cons (pe_op op_sub (pe_op op_pow pe_int pe_int) pe_int) (pa_cons (pe_op op_sub pe_int (pe_op op_pow pe_int pe_int)) pa_nil)))))))) (pe_op op_mod (pe_callTy cr_intI rfl T.z_int (by decide +kernel) (pa_cons (pe_ix ix_list (pv 2) pe_int (fun _ _ => rfl)) pa_nil)) pe_int) (fun _ _ => rfl)))) pss_nil)
      (pss_one (ps_ret (pe_tup (pa_cons (pv 5) (pa_cons (pv 3) pa_nil)))))))))))
theorem ok_law_cell {P : Program} {w : World} {K : PySem.W.Frag} {mg : Str → Option Value} {base : Heap} (T : Txt K mg)  : O_law_cell P w K mg base := by
  obtain ⟨fd, X⟩ := T.d_law_cell
  refine ⟨fd, X, X.ok sc_law_cell (fun vs H Q E h => len_law_cell h) (fun cdv A outer s H vs Q E hr h => ⟨t_law_cell K E, PSs.nox ?_, pure_law_cell vs H Q E h⟩)⟩
  exact (pss_cons (ps_if (pt_cmpR op_lt (pv 1) (pe_callB cr_lenQ rfl T.z_len (by decide +kernel) (pa_cons (pv 0) pa_nil)) (nomark _)) (pss_one (ps_ret (pe_ix ix_list (pv 0) (pv 1) (fun _ _ => rfl)))) pss_nil)
      (pss_cons (ps_set (i := 2) sc_law_cell.nd rfl (Or.inl rfl) (pe_op op_add (pe_op op_mul pe_int (pv 1)) pe_int))
      (pss_cons (ps_for PassesOwn.never rfl (pi_list (pv 0)) (pg_name (i := 3) sc_law_cell.nd rfl (Or.inl rfl))
      (pss_one (ps_set (i := 2) sc_law_cell.nd rfl (Or.inl rfl) (pe_op op_mod (pe_callTy cr_intI rfl T.z_int (by decide +kernel) (pa_cons (pe_op op_add (pe_op op_mul (pv 2) pe_int) (pv 3)) pa_nil)) pe_int))))
      (pss_one (ps_ret (pv 2))))))
theorem ok_law_plain {P : Program} {w : World} {K : PySem.W.Frag} {mg : Str → Option Value} {base : Heap} (T : Txt K mg)  : O_law_plain P w K mg base := by
  obtain ⟨fd, X⟩ := T.d_law_plain
  refine ⟨fd, X, X.ok sc_law_plain (fun vs H Q E h => len_law_plain h) (fun cdv A outer s H vs Q E hr h => ⟨t_law_plain K E, PSs.nox ?_, pure_law_plain vs H Q E h⟩)⟩
  exact (pss_cons (ps_for PassesOwn.never rfl (pi_range1 rfl T.z_range (pa_cons pe_int pa_nil)) (pg_name (i := 2) sc_law_plain.nd rfl (Or.inl rfl))
      (pss_one (ps_if (PW.pt (pw_and (pt_cmpR op_gt (pv 1) pe_int (nomark _)) (pw_and1 (pt_cmpR op_eq (pe_op op_mod (pe_callTy cr_intI rfl T.z_int (by decide +kernel) (pa_cons (pv 0) pa_nil)) pe_int) pe_int (nomark _))))) (pss_cons (ps_set (i := 0) sc_law_plain.nd rfl (Or.inl rfl) (pe_op op_fdiv (pv 0) pe_int))
      (pss_one (ps_set (i := 1) sc_law_plain.nd rfl (Or.inl rfl) (pe_op op_sub (pv 1) pe_int)))) pss_nil)))
      (pss_one (ps_ret (pe_tup (pa_cons (pv 0) (pa_cons (pv 1) pa_nil))))))
theorem ok_law_text {P : Program} {w : World} {K : PySem.W.Frag} {mg : Str → Option Value} {base : Heap} (T : Txt K mg) (D_law_plain : O_law_plain P w K mg base) : O_law_text P w K mg base := by
  obtain ⟨fd_law_plain, X_law_plain, G_law_plain⟩ := D_law_plain.ex
  have K_law_plain := X_law_plain.kp
  have B_law_plain := X_law_plain.bindsN (ps := ["top", "power"]) fun _ _ _ _ _ _ us hl => match us, hl with | [_, _], _ => rfl
  have V_law_plain : Vals [] [] := .nil
  obtain ⟨fd, X⟩ := T.d_law_text
  refine ⟨fd, X, X.ok sc_law_text (fun vs H Q E h => len_law_text h) (fun cdv A outer s H vs Q E hr h => ⟨t_law_text K E, PSs.nox ?_, pure_law_text vs H Q E h⟩)⟩
  exact (pss_cons (ps_set (i := 2) sc_law_text.nd rfl (Or.inl rfl) (pe_call G_law_plain (hr.mono (by decide)) rfl T.g__law_plain K_law_plain B_law_plain V_law_plain pass0 (pa_cons (pv 0) (pa_cons (pv 1) pa_nil))))
      (pss_cons (ps_if (pt_cmpR op_eq (pe_ix ix_tup (pv 2) pe_int (fun _ _ => rfl)) pe_int (nomark _)) (pss_one (ps_ret (pe_callTy cr_strI rfl T.z_str (by decide +kernel) (pa_cons (pe_ix ix_tup (pv 2) pe_int (fun _ _ => rfl)) pa_nil)))) pss_nil)
      (pss_one (ps_ret (pe_op op_add_str (pe_op op_add_str (pe_callTy cr_strI rfl T.z_str (by decide +kernel) (pa_cons (pe_ix ix_tup (pv 2) pe_int (fun _ _ => rfl)) pa_nil)) pe_str) (pe_callTy cr_strI rfl T.z_str (by decide +kernel) (pa_cons (pe_op op_shl pe_int (pe_ix ix_tup (pv 2) pe_int (fun _ _ => rfl))) pa_nil)))))))
theorem ok_law_spoilt {P : Program} {w : World} {K : PySem.W.Frag} {mg : Str → Option Value} {base : Heap} (T : Txt K mg)  : O_law_spoilt P w K mg base := by
  obtain ⟨fd, X⟩ := T.d_law_spoilt
  refine ⟨fd, X, X.ok sc_law_spoilt (fun vs H Q E h => len_law_spoilt h) (fun cdv A outer s H vs Q E hr h => ⟨t_law_spoilt K E, PSs.nox ?_, pure_law_spoilt vs H Q E h⟩)⟩
  exact (pss_cons (ps_set (i := 2) sc_law_spoilt.nd rfl (Or.inl rfl) pe_str)
      (pss_cons (ps_set (i := 3) sc_law_spoilt.nd rfl (Or.inl rfl) (pe_ix ix_str (pv 2) (pe_op op_mod (pe_callTy cr_intI rfl T.z_int (by decide +kernel) (pa_cons (pe_ix ix_list (pv 1) pe_int (fun _ _ => rfl)) pa_nil)) pe_int) (fun _ _ => rfl)))
      (pss_cons (ps_set (i := 4) sc_law_spoilt.nd rfl (Or.inl rfl) (pe_op op_mod (pe_callTy cr_intI rfl T.z_int (by decide +kernel) (pa_cons (pe_ix ix_list (pv 1) pe_int (fun _ _ => rfl)) pa_nil)) (pe_op op_add (pe_callB cr_lenS rfl T.z_len (by decide +kernel) (pa_cons (pv 0) pa_nil)) pe_int)))
      (pss_cons (ps_if (pt_cmpR op_eq (pe_op op_mod (pe_callTy cr_intI rfl T.z_int (by decide +kernel) (pa_cons (pe_ix ix_list (pv 1) pe_int (fun _ _ => rfl)) pa_nil)) pe_int) pe_int (nomark _)) (pss_one (ps_ret (pe_op op_add_str (pe_op op_add_str (pe_slice sl_str (pv 0) po_none (po_some (pv 4))) (pv 3)) (pe_slice sl_str (pv 0) (po_some (pv 4)) po_none)))) pss_nil)
      (pss_cons (ps_set (i := 4) sc_law_spoilt.nd rfl (Or.inl rfl) (pe_op op_mod (pe_callTy cr_intI rfl T.z_int (by decide +kernel) (pa_cons (pe_ix ix_list (pv 1) pe_int (fun _ _ => rfl)) pa_nil)) (pe_callB cr_lenS rfl T.z_len (by decide +kernel) (pa_cons (pv 0) pa_nil))))
      (pss_cons (ps_if (pt_cmpR op_eq (pe_op op_mod (pe_callTy cr_intI rfl T.z_int (by decide +kernel) (pa_cons (pe_ix ix_list (pv 1) pe_int (fun _ _ => rfl)) pa_nil)) pe_int) pe_int (nomark _)) (pss_one (ps_ret (pe_op op_add_str (pe_slice sl_str (pv 0) po_none (po_some (pv 4))) (pe_slice sl_str (pv 0) (po_some (pe_op op_add (pv 4) pe_int)) po_none)))) pss_nil)
      (pss_one (ps_ret (pe_op op_add_str (pe_op op_add_str (pe_slice sl_str (pv 0) po_none (po_some (pv 4))) (pv 3)) (pe_slice sl_str (pv 0) (po_some (pe_op op_add (pv 4) pe_int)) po_none))))))))))
theorem ok_law_odd {P : Program} {w : World} {K : PySem.W.Frag} {mg : Str → Option Value} {base : Heap} (T : Txt K mg)  : O_law_odd P w K mg base := by
  obtain ⟨fd, X⟩ := T.d_law_odd
  refine ⟨fd, X, X.ok sc_law_odd (fun vs H Q E h => len_law_odd h) (fun cdv A outer s H vs Q E hr h => ⟨t_law_odd K E, PSs.nox ?_, pure_law_odd vs H Q E h⟩)⟩
  exact (pss_cons (ps_set (i := 1) sc_law_odd.nd rfl (Or.inl rfl) (pe_lst (pa_cons pe_str (pa_cons pe_str (pa_cons pe_str (pa_cons pe_str (pa_cons pe_str (pa_cons pe_str (pa_cons pe_str (pa_cons pe_str (pa_cons pe_str (pa_cons pe_str (pa_cons pe_str (pa_cons pe_str (pa_cons pe_str (pa_cons pe_str (pa_cons pe_str (pa_cons pe_str pa_nil))))))))))))))))))
      (pss_cons (ps_set (i := 1) sc_law_odd.nd rfl (Or.inl rfl) (pe_op op_cat (pv 1) (pe_lst (pa_cons pe_str (pa_cons pe_str (pa_cons pe_str (pa_cons pe_str (pa_cons pe_str (pa_cons pe_str pa_nil)))))))))
      (pss_cons (ps_set (i := 1) sc_law_odd.nd rfl (Or.inl rfl) (pe_op op_cat (pv 1) (pe_lst (pa_cons pe_str (pa_cons pe_str (pa_cons pe_str (pa_cons pe_str (pa_cons pe_str (pa_cons pe_str (pa_cons pe_str pa_nil))))))))))
      (pss_cons (ps_set (i := 1) sc_law_odd.nd rfl (Or.inl rfl) (pe_op op_cat (pv 1) (pe_lst (pa_cons (pe_op op_rep_str pe_str pe_int) (pa_cons (pe_op op_add_str pe_str (pe_op op_rep_str pe_str pe_int)) (pa_cons pe_str (pa_cons pe_str (pa_cons pe_str (pa_cons pe_str (pa_cons pe_str (pa_cons pe_str (pa_cons pe_str (pa_cons pe_str (pa_cons pe_str pa_nil))))))))))))))
      (pss_one (ps_ret (pe_ix ix_list (pv 1) (pe_op op_mod (pe_callTy cr_intI rfl T.z_int (by decide +kernel) (pa_cons (pv 0) pa_nil)) pe_int) (fun _ _ => rfl))))))))
theorem ok_law_joined {P : Program} {w : World} {K : PySem.W.Frag} {mg : Str → Option Value} {base : Heap} (T : Txt K mg)  : O_law_joined P w K mg base := by
  obtain ⟨fd, X⟩ := T.d_law_joined
  refine ⟨fd, X, X.ok sc_law_joined (fun vs H Q E h => len_law_joined h) (fun cdv A outer s H vs Q E hr h => ⟨t_law_joined K E, PSs.nox ?_, pure_law_joined vs H Q E h⟩)⟩
  exact (pss_cons (ps_set (i := 2) sc_law_joined.nd rfl (Or.inl rfl) (pe_op op_add_str (pe_ix ix_list (pe_lst (pa_cons pe_str (pa_cons pe_str (pa_cons pe_str (pa_cons pe_str (pa_cons pe_str pa_nil)))))) (pe_op op_mod (pe_callTy cr_intI rfl T.z_int (by decide +kernel) (pa_cons (pe_ix ix_list (pv 0) pe_int (fun _ _ => rfl)) pa_nil)) pe_int) (fun _ _ => rfl)) (pe_slice sl_str (pe_callTy cr_strI rfl T.z_str (by decide +kernel) (pa_cons (pe_op op_mod (pe_callTy cr_intI rfl T.z_int (by decide +kernel) (pa_cons (pv 1) pa_nil)) (pe_op op_pow pe_int pe_int)) pa_nil)) po_none (po_some (pe_op op_mod (pe_callTy cr_intI rfl T.z_int (by decide +kernel) (pa_cons (pe_ix ix_list (pv 0) pe_int (fun _ _ => rfl)) pa_nil)) pe_int)))))
      (Evl.pss_cut (ps_if (pt_cmpR op_gt (pe_op op_mod (pe_callTy cr_intI rfl T.z_int (by decide +kernel) (pa_cons (pe_ix ix_list (pv 0) pe_int (fun _ _ => rfl)) pa_nil)) pe_int) pe_int (nomark _)) (pss_one (ps_set (i := 2) sc_law_joined.nd rfl (Or.inl rfl) (pe_op op_add_str (pe_op op_add_str (pv 2) pe_str) (pe_ix ix_list (pe_lst (pa_cons pe_str (pa_cons pe_str (pa_cons pe_str (pa_cons pe_str (pa_cons pe_str (pa_cons pe_str (pa_cons pe_str (pa_cons pe_str (pa_cons pe_str (pa_cons pe_str pa_nil))))))))))) (pe_op op_mod (pe_callTy cr_intI rfl T.z_int (by decide +kernel) (pa_cons (pe_ix ix_list (pv 0) pe_int (fun _ _ => rfl)) pa_nil)) pe_int) (fun _ _ => rfl))))) pss_nil)
      (pss_one (ps_ret (pv 2)))))
theorem ok_law_is_digits {P : Program} {w : World} {K : PySem.W.Frag} {mg : Str → Option Value} {base : Heap} (T : Txt K mg)  : O_law_is_digits P w K mg base := by
  obtain ⟨fd, X⟩ := T.d_law_is_digits
  refine ⟨fd, X, X.ok sc_law_is_digits (fun vs H Q E h => len_law_is_digits h) (fun cdv A outer s H vs Q E hr h => ⟨t_law_is_digits K E, PSs.nox ?_, pure_law_is_digits vs H Q E h⟩)⟩
  exact (pss_cons (ps_for PassesOwn.never rfl (pi_str (pv 0)) (pg_name (i := 1) sc_law_is_digits.nd rfl (Or.inl rfl))
      (pss_one (ps_if (pt_cmpR op_notInS (pv 1) pe_str (by rfl)) (pss_one (ps_ret pe_bl)) pss_nil)))
      (pss_one (ps_ret (pe_cmpR op_ne (pv 0) pe_str (nomark _)))))
theorem ok_law_reading {P : Program} {w : World} {K : PySem.W.Frag} {mg : Str → Option Value} {base : Heap} (T : Txt K mg) (D_law_is_digits : O_law_is_digits P w K mg base) (D_law_text : O_law_text P w K mg base) : O_law_reading P w K mg base := by
  obtain ⟨fd_law_is_digits, X_law_is_digits, G_law_is_digits⟩ := D_law_is_digits.ex
  have K_law_is_digits := X_law_is_digits.kp
  have B_law_is_digits := X_law_is_digits.bindsN (ps := ["word"]) fun _ _ _ _ _ _ us hl => match us, hl with | [_], _ => rfl
  have V_law_is_digits : Vals [] [] := .nil
  obtain ⟨fd_law_text, X_law_text, G_law_text⟩ := D_law_text.ex
  have K_law_text := X_law_text.kp
  have B_law_text := X_law_text.bindsN (ps := ["top", "power"]) fun _ _ _ _ _ _ us hl => match us, hl with | [_, _], _ => rfl
  have V_law_text : Vals [] [] := .nil
  obtain ⟨fd, X⟩ := T.d_law_reading
  refine ⟨fd, X, X.ok sc_law_reading (fun vs H Q E h => len_law_reading h) (fun cdv A outer s H vs Q E hr h => ⟨t_law_reading K E, PSs.nox ?_, pure_law_reading vs H Q E h⟩)⟩
  exact (pss_cons (ps_if (PW.pt (pw_or (pt_not (pt_val (pe_callB call_isi rfl T.z_isinstance (by decide +kernel) (pa_cons (pv 0) (pa_cons (pe_bltn rfl T.z_str (by decide +kernel) rfl) pa_nil))))) (pw_or (pt_cmpR op_eq (pv 0) pe_str (nomark _)) (pw_or1 (pt_cmpR op_gt (pe_callB cr_lenS rfl T.z_len (by decide +kernel) (pa_cons (pv 0) pa_nil)) pe_int (nomark _)))))) (pss_one (ps_ret pe_non)) pss_nil)
      (pss_cons (ps_set (i := 1) sc_law_reading.nd rfl (Or.inl rfl) (pe_ifExp (pt_cmpR op_eq (pe_ix ix_str (pv 0) pe_int (fun _ _ => rfl)) pe_str (nomark _)) (pe_slice sl_str (pv 0) (po_some pe_int) po_none) (pv 0)))
      (pss_cons (ps_set (i := 2) sc_law_reading.nd rfl (Or.inr rfl) (pe_bm PySem.F.plainAttrs_str PySem.F.slot_str_split PySem.F.type_str_split mt_split (pv 1) (pa_cons pe_str pa_nil)))
      (pss_cons (ps_if (PW.pt (pw_or (pt_cmpR op_gt (pe_callB cr_lenQ rfl T.z_len (by decide +kernel) (pa_cons (pv 2) pa_nil)) pe_int (nomark _)) (pw_or (pt_not (pt_val (pe_call G_law_is_digits (hr.mono (by decide)) rfl T.g__law_is_digits K_law_is_digits B_law_is_digits V_law_is_digits pass0 (pa_cons (pe_ix ix_list (pv 2) pe_int (fun _ _ => rfl)) pa_nil)))) (pw_or1 (pt_not (pt_val (pe_call G_law_is_digits (hr.mono (by decide)) rfl T.g__law_is_digits K_law_is_digits B_law_is_digits V_law_is_digits pass0 (pa_cons (pe_ix ix_list (pv 2) (pe_un un_neg pe_int) (fun _ _ => rfl)) pa_nil)))))))) (pss_one (ps_ret pe_non)) pss_nil)
      (pss_cons (ps_set (i := 3) sc_law_reading.nd rfl (Or.inl rfl) (pe_ifExp (pt_cmpR op_ne (pe_ix ix_str (pv 0) pe_int (fun _ _ => rfl)) pe_str (nomark _)) (pe_callTy call_int_str rfl T.z_int (by decide +kernel) (pa_cons (pe_ix ix_list (pv 2) pe_int (fun _ _ => rfl)) pa_nil)) (pe_un un_neg (pe_callTy call_int_str rfl T.z_int (by decide +kernel) (pa_cons (pe_ix ix_list (pv 2) pe_int (fun _ _ => rfl)) pa_nil)))))
      (pss_cons (ps_setLc (i := 4) (own := [("k", 5)]) (g := (gName 5)) (tt := (tOr (tAnd (tTest (tOp rEq (tCB (rLenQ K) (tCons (tVar 2) tNil)) (tC (.int 1)))) (tTest (tOp rEq (tVar 5) (tC (.int 0))))) (tAnd (tTest (tOp rEq (tCB (rLenQ K) (tCons (tVar 2) tNil)) (tC (.int 2)))) (tTest (tOp rEq (tCB rStrI (tCons (tOp rShlI (tC (.int 1)) (tVar 5)) tNil)) (tOp (rIxL K) (tVar 2) (tC (.int 1)))))))) rfl sc_law_reading.nd rfl rfl (sw_true rfl rfl rfl (by decide +kernel)) (pi_range1 rfl T.z_range (pa_cons pe_int pa_nil)) (blkOk_by (N := R_law_reading) (sc := defScope s_law_reading) (by decide +kernel)) (fun _ _ _ _ _ => (pg_name (i := 5) sc_law_reading.nd rfl (Or.inl rfl))) (fun _ _ _ _ _ => (pts_one (PW.pt (pw_or (PW.pt (pw_and (pt_cmpR op_eq (pe_callB cr_lenQ rfl T.z_len (by decide +kernel) (pa_cons (pv 2) pa_nil)) pe_int (nomark _)) (pw_and1 (pt_cmpR op_eq (pv 5) pe_int (nomark _))))) (pw_or1 (PW.pt (pw_and (pt_cmpR op_eq (pe_callB cr_lenQ rfl T.z_len (by decide +kernel) (pa_cons (pv 2) pa_nil)) pe_int (nomark _)) (pw_and1 (pt_cmpR op_eq (pe_callTy cr_strI rfl T.z_str (by decide +kernel) (pa_cons (pe_op op_shl pe_int (pv 5)) pa_nil)) (pe_ix ix_list (pv 2) pe_int (fun _ _ => rfl)) (nomark _)))))))))) (fun _ _ _ _ _ => (pv 5)))
      (pss_cons (ps_if (PW.pt (pw_or (pt_cmpR op_eq (pe_callB cr_lenQ rfl T.z_len (by decide +kernel) (pa_cons (pv 4) pa_nil)) pe_int (nomark _)) (pw_or (pt_cmpR op_gt (pe_callB cr_absI rfl T.z_abs (by decide +kernel) (pa_cons (pv 3) pa_nil)) (pe_op op_pow pe_int pe_int) (nomark _)) (pw_or1 (pt_cmpR op_ne (pe_call G_law_text (hr.mono (by decide)) rfl T.g__law_text K_law_text B_law_text V_law_text pass0 (pa_cons (pv 3) (pa_cons (pe_ix ix_list (pv 4) pe_int (fun _ _ => rfl)) pa_nil))) (pv 0) (nomark _)))))) (pss_one (ps_ret pe_non)) pss_nil)
      (pss_one (ps_ret (pe_tup (pa_cons (pv 3) (pa_cons (pe_ix ix_list (pv 4) pe_int (fun _ _ => rfl)) pa_nil))))))))))))
theorem ok_are_digits {P : Program} {w : World} {K : PySem.W.Frag} {mg : Str → Option Value} {base : Heap} (T : Txt K mg)  : O_are_digits P w K mg base := by
  obtain ⟨fd, X⟩ := T.d_are_digits
  refine ⟨fd, X, X.ok sc_are_digits (fun vs H Q E h => len_are_digits h) (fun cdv A outer s H vs Q E hr h => ⟨t_are_digits K E, PSs.nox ?_, pure_are_digits vs H Q E h⟩)⟩
  exact (pss_one (ps_ret (pe_and (pe_cmpR op_ne (pv 0) pe_str (nomark _)) (pe_one (pe_callB (cr_all rfl) rfl T.z_all (by decide +kernel) (pa_cons (pe_lc (own := [("sign", 1)]) (g := (gName 1)) (tt := tYes) rfl sc_are_digits.nd (pi_str (pv 0)) (blkOk_by (N := R_are_digits) (sc := defScope s_are_digits) (by decide +kernel)) (fun _ _ _ _ _ => (pg_name (i := 1) sc_are_digits.nd rfl (Or.inl rfl))) (fun _ _ _ _ _ => pts_nil) (fun _ _ _ _ _ => (pe_cmpR op_inS (pv 1) pe_str (by rfl)))) pa_nil))))))
theorem ok_is_whole {P : Program} {w : World} {K : PySem.W.Frag} {mg : Str → Option Value} {base : Heap} (T : Txt K mg)  : O_is_whole P w K mg base := by
  obtain ⟨fd, X⟩ := T.d_is_whole
  refine ⟨fd, X, X.ok sc_is_whole (fun vs H Q E h => len_is_whole h) (fun cdv A outer s H vs Q E hr h => ⟨t_is_whole K E, PSs.nox ?_, pure_is_whole vs H Q E h⟩)⟩
  exact (pss_one (ps_ret (pe_and (pe_cmpR op_isTyB (pe_callTy call_type1 rfl T.z_type (by decide +kernel) (pa_cons (pv 0) pa_nil)) (pe_bltn rfl T.z_int (by decide +kernel) rfl) (nomark _)) (pe_one (pe_chain op_le op_le (pv 1) (pv 0) (pv 2))))))
theorem ok_read_top {P : Program} {w : World} {K : PySem.W.Frag} {mg : Str → Option Value} {base : Heap} (T : Txt K mg) (D_are_digits : O_are_digits P w K mg base) (D_is_whole : O_is_whole P w K mg base) : O_read_top P w K mg base := by
  obtain ⟨fd_are_digits, X_are_digits, G_are_digits⟩ := D_are_digits.ex
  have K_are_digits := X_are_digits.kp
  have B_are_digits := X_are_digits.bindsN (ps := ["text"]) fun _ _ _ _ _ _ us hl => match us, hl with | [_], _ => rfl
  have V_are_digits : Vals [] [] := .nil
  obtain ⟨fd_is_whole, X_is_whole, G_is_whole⟩ := D_is_whole.ex
  have K_is_whole := X_is_whole.kp
  have B_is_whole := X_is_whole.bindsN (ps := ["thing", "least", "most"]) fun _ _ _ _ _ _ us hl => match us, hl with | [_, _, _], _ => rfl
  have V_is_whole : Vals [] [] := .nil
  obtain ⟨fd, X⟩ := T.d_read_top
  refine ⟨fd, X, X.ok sc_read_top (fun vs H Q E h => len_read_top h) (fun cdv A outer s H vs Q E hr h => ⟨t_read_top K E, PSs.nox ?_, pure_read_top vs H Q E h⟩)⟩
  exact (pss_cons (ps_set (i := 1) sc_read_top.nd rfl (Or.inl rfl) (pe_bm PySem.F.plainAttrs_str PySem.F.slot_str_removeprefix PySem.F.type_str_removeprefix mt_removeprefix (pv 0) (pa_cons pe_str pa_nil)))
      (pss_cons (ps_if (PW.pt (pw_or (pt_cmpR op_gt (pe_callB cr_lenS rfl T.z_len (by decide +kernel) (pa_cons (pv 0) pa_nil)) (C8.pe_gc rfl (cst_ok T.c_LONGEST_TOP)) (nomark _)) (pw_or1 (pt_not (pt_val (pe_call G_are_digits (hr.mono (by decide)) rfl T.g__are_digits K_are_digits B_are_digits V_are_digits pass0 (pa_cons (pv 1) pa_nil))))))) (pss_one (ps_ret pe_non)) pss_nil)
      (pss_cons (ps_set (i := 2) sc_read_top.nd rfl (Or.inl rfl) (pe_callTy call_int_str rfl T.z_int (by decide +kernel) (pa_cons (pv 0) pa_nil)))
      (pss_one (ps_ret (pe_ifExp (pt_val (pe_call G_is_whole (hr.mono (by decide)) rfl T.g_is_whole K_is_whole B_is_whole V_is_whole pass0 (pa_cons (pv 2) (pa_cons (pe_un un_neg (C8.pe_gc rfl (cst_ok T.c_MOST_TOP))) (pa_cons (C8.pe_gc rfl (cst_ok T.c_MOST_TOP)) pa_nil))))) (pv 2) pe_non))))))
theorem ok_read_power {P : Program} {w : World} {K : PySem.W.Frag} {mg : Str → Option Value} {base : Heap} (T : Txt K mg)  : O_read_power P w K mg base := by
  obtain ⟨fd, X⟩ := T.d_read_power
  refine ⟨fd, X, X.ok sc_read_power (fun vs H Q E h => len_read_power h) (fun cdv A outer s H vs Q E hr h => ⟨t_read_power K E, PSs.nox ?_, pure_read_power vs H Q E h⟩)⟩
  exact (pss_cons (ps_for PassesOwn.never rfl (pi_range2 rfl T.z_range (pa_cons pe_int (pa_cons (pe_op op_add (C8.pe_gc rfl (cst_ok T.c_MOST_POWER)) pe_int) pa_nil))) (pg_name (i := 1) sc_read_power.nd rfl (Or.inl rfl))
      (pss_one (ps_if (pt_cmpR op_eq (pe_callTy cr_strI rfl T.z_str (by decide +kernel) (pa_cons (pe_op op_shl pe_int (pv 1)) pa_nil)) (pv 0) (nomark _)) (pss_one (ps_ret (pv 1))) pss_nil)))
      (pss_one (ps_ret pe_non)))
theorem ok_plain {P : Program} {w : World} {K : PySem.W.Frag} {mg : Str → Option Value} {base : Heap} (T : Txt K mg)  : O_plain P w K mg base := by
  obtain ⟨fd, X⟩ := T.d_plain
  refine ⟨fd, X, X.ok sc_plain (fun vs H Q E h => len_plain h) (fun cdv A outer s H vs Q E hr h => ⟨t_plain K E, PSs.nox ?_, pure_plain vs H Q E h⟩)⟩
  exact (pss_cons (ps_while PassesOwn.never (PW.pt (pw_and (pt_cmpR op_gt (pv 1) pe_int (nomark _)) (pw_and1 (pt_cmpR op_eq (pe_op op_and (pv 0) pe_int) pe_int (nomark _))))) (pss_cons (ps_set (i := 0) sc_plain.nd rfl (Or.inl rfl) (pe_op op_shr (pv 0) pe_int))
      (pss_one (ps_set (i := 1) sc_plain.nd rfl (Or.inl rfl) (pe_op op_sub (pv 1) pe_int)))))
      (pss_one (ps_ret (pe_tup (pa_cons (pv 0) (pa_cons (pv 1) pa_nil))))))
theorem ok_Dyadic_d_init {P : Program} {w : World} {K : PySem.W.Frag} {mg : Str → Option Value} {base : Heap} (T : Txt K mg) (D_is_whole : O_is_whole P w K mg base) (D_plain : O_plain P w K mg base) : O_Dyadic_d_init P w K mg base := by
  obtain ⟨fd_is_whole, X_is_whole, G_is_whole⟩ := D_is_whole.ex
  have K_is_whole := X_is_whole.kp
  have B_is_whole := X_is_whole.bindsN (ps := ["thing", "least", "most"]) fun _ _ _ _ _ _ us hl => match us, hl with | [_, _, _], _ => rfl
  have V_is_whole : Vals [] [] := .nil
  obtain ⟨fd_plain, X_plain, G_plain⟩ := D_plain.ex
  have K_plain := X_plain.kp
  have B_plain := X_plain.bindsN (ps := ["top", "power"]) fun _ _ _ _ _ _ us hl => match us, hl with | [_, _], _ => rfl
  have V_plain : Vals [] [] := .nil
  obtain ⟨fd, X⟩ := T.d_Dyadic_d_init
  refine ⟨fd, X, X.ok sc_Dyadic_d_init (fun vs H Q E h => len_Dyadic_d_init h) (fun cdv A outer s H vs Q E hr h => ⟨t_Dyadic_d_init K E, ?_, pure_Dyadic_d_init T.FDyadic vs H Q E h⟩)⟩
  exact (pss_cons (ps_if (pt_not (pt_val (pe_call G_is_whole (hr.mono (by decide)) rfl T.g_is_whole K_is_whole B_is_whole V_is_whole pass0 (pa_cons (pv 1) (pa_cons (pe_un un_neg (C8.pe_gc rfl (cst_ok T.c_MOST_TOP))) (pa_cons (C8.pe_gc rfl (cst_ok T.c_MOST_TOP)) pa_nil)))))) (pss_one (ps_raise rfl (takes_of rfl rfl rfl rfl) (pmk_own PySem.F.excBase_ValueError T.x_BadValue.1 T.g_BadValue T.x_BadValue.2.1 (raises_own T.x_BadValue.2.2.1 T.x_BadValue.2.2.2) (by exact rfl)))) pss_nil)
      (pss_cons (ps_if (pt_not (pt_val (pe_call G_is_whole (hr.mono (by decide)) rfl T.g_is_whole K_is_whole B_is_whole V_is_whole pass0 (pa_cons (pv 2) (pa_cons pe_int (pa_cons (C8.pe_gc rfl (cst_ok T.c_MOST_POWER)) pa_nil)))))) (pss_one (ps_raise rfl (takes_of rfl rfl rfl rfl) (pmk_own PySem.F.excBase_ValueError T.x_BadValue.1 T.g_BadValue T.x_BadValue.2.1 (raises_own T.x_BadValue.2.2.1 T.x_BadValue.2.2.2) (by exact rfl)))) pss_nil)
      (pss_one (ps_asg (pe_call G_plain (hr.mono (by decide)) rfl T.g__plain K_plain B_plain V_plain pass0 (pa_cons (pv 1) (pa_cons (pv 2) pa_nil))) (pg_tup rfl (pgs_cons (pg_fld (pv 0)) (pgs_cons (pg_fld (pv 0)) pgs_nil)))))))
theorem ok_Dyadic_m_text {P : Program} {w : World} {K : PySem.W.Frag} {mg : Str → Option Value} {base : Heap} (T : Txt K mg)  : O_Dyadic_m_text P w K mg base := by
  obtain ⟨fd, X⟩ := T.d_Dyadic_m_text
  refine ⟨fd, X, X.ok sc_Dyadic_m_text (fun vs H Q E h => len_Dyadic_m_text h) (fun cdv A outer s H vs Q E hr h => ⟨t_Dyadic_m_text K E, PSs.nox ?_, pure_Dyadic_m_text T.FDyadic vs H Q E h⟩)⟩
  exact (pss_cons (ps_if (pt_cmpR op_eq (pe_fld (pv 0) rfl) pe_int (nomark _)) (pss_one (ps_ret (pe_callTy cr_strI rfl T.z_str (by decide +kernel) (pa_cons (pe_fld (pv 0) rfl) pa_nil)))) pss_nil)
      (pss_one (ps_ret (pe_joined (PJ.cons (pe_fmt (pe_fld (pv 0) rfl)) (PJ.cons pe_str (PJ.cons (pe_fmt (pe_op op_shl pe_int (pe_fld (pv 0) rfl))) PJ.nil)))))))
theorem ok_Dyadic_m_from_text {P : Program} {w : World} {K : PySem.W.Frag} {mg : Str → Option Value} {base : Heap} (T : Txt K mg) (D_read_top : O_read_top P w K mg base) (D_read_power : O_read_power P w K mg base) (D_Dyadic_d_init : O_Dyadic_d_init P w K mg base) (D_Dyadic_m_text : O_Dyadic_m_text P w K mg base) : O_Dyadic_m_from_text P w K mg base := by
  obtain ⟨fd_read_top, X_read_top, G_read_top⟩ := D_read_top.ex
  have K_read_top := X_read_top.kp
  have B_read_top := X_read_top.bindsN (ps := ["text"]) fun _ _ _ _ _ _ us hl => match us, hl with | [_], _ => rfl
  have V_read_top : Vals [] [] := .nil
  obtain ⟨fd_read_power, X_read_power, G_read_power⟩ := D_read_power.ex
  have K_read_power := X_read_power.kp
  have B_read_power := X_read_power.bindsN (ps := ["text"]) fun _ _ _ _ _ _ us hl => match us, hl with | [_], _ => rfl
  have V_read_power : Vals [] [] := .nil
  obtain ⟨fd_Dyadic_d_init, X_Dyadic_d_init, G_Dyadic_d_init⟩ := D_Dyadic_d_init.ex
  have K_Dyadic_d_init := X_Dyadic_d_init.kp
  obtain ⟨W_Dyadic_d_init_3, V_Dyadic_d_init_3, B_Dyadic_d_init_3⟩ := X_Dyadic_d_init.binds1 (ps := ["self", "top", "power"]) 3 1 (List.cons_ne_nil _ _) rfl fun _ _ _ _ _ _ _ us its hl hm => match us, its, hl, hm with | [_, _, _], [_], _, _ => ⟨_, rfl, rfl⟩
  obtain ⟨fd_Dyadic_m_text, X_Dyadic_m_text, G_Dyadic_m_text⟩ := D_Dyadic_m_text.ex
  have K_Dyadic_m_text := X_Dyadic_m_text.kp
  have B_Dyadic_m_text := X_Dyadic_m_text.bindsN (ps := ["self"]) fun _ _ _ _ _ _ us hl => match us, hl with | [_], _ => rfl
  have V_Dyadic_m_text : Vals [] [] := .nil
  obtain ⟨fd, X⟩ := T.d_Dyadic_m_from_text
  refine ⟨fd, X, X.ok sc_Dyadic_m_from_text (fun vs H Q E h => len_Dyadic_m_from_text h) (fun cdv A outer s H vs Q E hr h => ⟨t_Dyadic_m_from_text K E, ?_, pure_Dyadic_m_from_text vs H Q E h⟩)⟩
  exact (pss_cons (ps_if (pt_cmpR op_notTyB (pe_callTy call_type1 rfl T.z_type (by decide +kernel) (pa_cons (pv 0) pa_nil)) (pe_bltn rfl T.z_str (by decide +kernel) rfl) (nomark _)) (pss_one (ps_raise rfl (takes_of rfl rfl rfl rfl) (pmk_own PySem.F.excBase_ValueError T.x_BadText.1 T.g_BadText T.x_BadText.2.1 (raises_own T.x_BadText.2.2.1 T.x_BadText.2.2.2) (by exact rfl)))) pss_nil)
      (pss_cons (ps_asg (pe_bm PySem.F.plainAttrs_str PySem.F.slot_str_partition PySem.F.type_str_partition mt_partition (pv 0) (pa_cons pe_str pa_nil)) (pg_tup rfl (pgs_cons (pg_name (i := 1) sc_Dyadic_m_from_text.nd rfl (Or.inl rfl)) (pgs_cons (pg_name (i := 2) sc_Dyadic_m_from_text.nd rfl (Or.inl rfl)) (pgs_cons (pg_name (i := 3) sc_Dyadic_m_from_text.nd rfl (Or.inl rfl)) pgs_nil)))))
      (pss_cons (ps_set (i := 4) sc_Dyadic_m_from_text.nd rfl (Or.inl rfl) (pe_call G_read_top (hr.mono (by decide)) rfl T.g__read_top K_read_top B_read_top V_read_top pass0 (pa_cons (pv 1) pa_nil)))
      (pss_cons (ps_set (i := 5) sc_Dyadic_m_from_text.nd rfl (Or.inl rfl) (pe_ifExp (pt_truth (pv 2) (by intro _; rfl)) (pe_call G_read_power (hr.mono (by decide)) rfl T.g__read_power K_read_power B_read_power V_read_power pass0 (pa_cons (pv 3) pa_nil)) pe_int))
      (pss_cons (ps_if (PW.pt (pw_or (pt_cmpR op_isN1 (pv 4) pe_non (nomark _)) (pw_or1 (pt_cmpR op_isN1 (pv 5) pe_non (nomark _))))) (pss_one (ps_raise rfl (takes_of rfl rfl rfl rfl) (pmk_own PySem.F.excBase_ValueError T.x_BadText.1 T.g_BadText T.x_BadText.2.1 (raises_own T.x_BadText.2.2.1 T.x_BadText.2.2.2) (by exact rfl)))) pss_nil)
      (pss_cons (ps_set (i := 6) sc_Dyadic_m_from_text.nd rfl (Or.inl rfl) (pe_make T.mk_Dyadic G_Dyadic_d_init (hr.mono (by decide)) rfl T.g_Dyadic B_Dyadic_d_init_3 V_Dyadic_d_init_3 passL (pa_cons (pv 4) (pa_cons (pv 5) pa_nil))))
      (pss_cons (ps_if (pt_cmpR op_ne (pe_meth0 (pv 6) T.cl_Dyadic T.mt_Dyadic_text G_Dyadic_m_text (hr.mono (by decide)) B_Dyadic_m_text .nil pass0) (pv 0) (nomark _)) (pss_one (ps_raise rfl (takes_of rfl rfl rfl rfl) (pmk_own PySem.F.excBase_ValueError T.x_BadText.1 T.g_BadText T.x_BadText.2.1 (raises_own T.x_BadText.2.2.1 T.x_BadText.2.2.2) (by exact rfl)))) pss_nil)
      (pss_one (ps_ret (pv 6))))))))))
theorem ok_law_is_integer {P : Program} {w : World} {K : PySem.W.Frag} {mg : Str → Option Value} {base : Heap} (T : Txt K mg)  : O_law_is_integer P w K mg base := by
  obtain ⟨fd, X⟩ := T.d_law_is_integer
  refine ⟨fd, X, X.ok sc_law_is_integer (fun vs H Q E h => len_law_is_integer h) (fun cdv A outer s H vs Q E hr h => ⟨t_law_is_integer K E, PSs.nox ?_, pure_law_is_integer vs H Q E h⟩)⟩
  exact (pss_one (ps_ret (pe_and (pe_callB call_isi rfl T.z_isinstance (by decide +kernel) (pa_cons (pv 0) (pa_cons (pe_bltn rfl T.z_int (by decide +kernel) rfl) pa_nil))) (pe_one (pe_not (pe_callB call_isi rfl T.z_isinstance (by decide +kernel) (pa_cons (pv 0) (pa_cons (pe_bltn rfl T.z_bool (by decide +kernel) rfl) pa_nil))))))))
theorem ok_Dyadic_m_top {P : Program} {w : World} {K : PySem.W.Frag} {mg : Str → Option Value} {base : Heap} (T : Txt K mg)  : O_Dyadic_m_top P w K mg base := by
  obtain ⟨fd, X⟩ := T.d_Dyadic_m_top
  refine ⟨fd, X, X.ok sc_Dyadic_m_top (fun vs H Q E h => len_Dyadic_m_top h) (fun cdv A outer s H vs Q E hr h => ⟨t_Dyadic_m_top K E, PSs.nox ?_, pure_Dyadic_m_top T.FDyadic vs H Q E h⟩)⟩
  exact (pss_one (ps_ret (pe_fld (pv 0) rfl)))
theorem ok_Dyadic_m_power {P : Program} {w : World} {K : PySem.W.Frag} {mg : Str → Option Value} {base : Heap} (T : Txt K mg)  : O_Dyadic_m_power P w K mg base := by
  obtain ⟨fd, X⟩ := T.d_Dyadic_m_power
  refine ⟨fd, X, X.ok sc_Dyadic_m_power (fun vs H Q E h => len_Dyadic_m_power h) (fun cdv A outer s H vs Q E hr h => ⟨t_Dyadic_m_power K E, PSs.nox ?_, pure_Dyadic_m_power T.FDyadic vs H Q E h⟩)⟩
  exact (pss_one (ps_ret (pe_fld (pv 0) rfl)))
theorem ok_law_holds {P : Program} {w : World} {K : PySem.W.Frag} {mg : Str → Option Value} {base : Heap} (T : Txt K mg) (D_law_plain : O_law_plain P w K mg base) (D_law_is_integer : O_law_is_integer P w K mg base) (D_Dyadic_m_top : O_Dyadic_m_top P w K mg base) (D_Dyadic_m_power : O_Dyadic_m_power P w K mg base) : O_law_holds P w K mg base := by
  obtain ⟨fd_law_plain, X_law_plain, G_law_plain⟩ := D_law_plain.ex
  have K_law_plain := X_law_plain.kp
  have B_law_plain := X_law_plain.bindsN (ps := ["top", "power"]) fun _ _ _ _ _ _ us hl => match us, hl with | [_, _], _ => rfl
  have V_law_plain : Vals [] [] := .nil
  obtain ⟨fd_law_is_integer, X_law_is_integer, G_law_is_integer⟩ := D_law_is_integer.ex
  have K_law_is_integer := X_law_is_integer.kp
  have B_law_is_integer := X_law_is_integer.bindsN (ps := ["thing"]) fun _ _ _ _ _ _ us hl => match us, hl with | [_], _ => rfl
  have V_law_is_integer : Vals [] [] := .nil
  obtain ⟨fd_Dyadic_m_top, X_Dyadic_m_top, G_Dyadic_m_top⟩ := D_Dyadic_m_top.ex
  have K_Dyadic_m_top := X_Dyadic_m_top.kp
  have B_Dyadic_m_top := X_Dyadic_m_top.bindsN (ps := ["self"]) fun _ _ _ _ _ _ us hl => match us, hl with | [_], _ => rfl
  have V_Dyadic_m_top : Vals [] [] := .nil
  obtain ⟨fd_Dyadic_m_power, X_Dyadic_m_power, G_Dyadic_m_power⟩ := D_Dyadic_m_power.ex
  have K_Dyadic_m_power := X_Dyadic_m_power.kp
  have B_Dyadic_m_power := X_Dyadic_m_power.bindsN (ps := ["self"]) fun _ _ _ _ _ _ us hl => match us, hl with | [_], _ => rfl
  have V_Dyadic_m_power : Vals [] [] := .nil
  obtain ⟨fd, X⟩ := T.d_law_holds
  refine ⟨fd, X, X.ok sc_law_holds (fun vs H Q E h => len_law_holds h) (fun cdv A outer s H vs Q E hr h => ⟨t_law_holds K E, PSs.nox ?_, pure_law_holds vs H Q E h⟩)⟩
  exact (pss_cons (ps_set (i := 3) sc_law_holds.nd rfl (Or.inl rfl) (pe_call G_law_plain (hr.mono (by decide)) rfl T.g__law_plain K_law_plain B_law_plain V_law_plain pass0 (pa_cons (pv 1) (pa_cons (pv 2) pa_nil))))
      (pss_cons (ps_if (PW.pt (pw_or (pt_not (pt_val (pe_callB (cr_isC T.ic_Dyadic) rfl T.z_isinstance (by decide +kernel) (pa_cons (pv 0) (pa_cons (C8.pe_gc rfl ⟨_, T.g_Dyadic, rfl⟩) pa_nil))))) (pw_or (pt_not (pt_val (pe_call G_law_is_integer (hr.mono (by decide)) rfl T.g__law_is_integer K_law_is_integer B_law_is_integer V_law_is_integer pass0 (pa_cons (pe_prop (pv 0) T.cl_Dyadic T.pr_Dyadic_top G_Dyadic_m_top (hr.mono (by decide)) B_Dyadic_m_top .nil pass0 (by rfl)) pa_nil)))) (pw_or1 (pt_not (pt_val (pe_call G_law_is_integer (hr.mono (by decide)) rfl T.g__law_is_integer K_law_is_integer B_law_is_integer V_law_is_integer pass0 (pa_cons (pe_prop (pv 0) T.cl_Dyadic T.pr_Dyadic_power G_Dyadic_m_power (hr.mono (by decide)) B_Dyadic_m_power .nil pass0 (by rfl)) pa_nil)))))))) (pss_one (ps_ret pe_bl)) pss_nil)
      (pss_one (ps_ret (pe_and (pe_cmpR op_eq (pe_prop (pv 0) T.cl_Dyadic T.pr_Dyadic_top G_Dyadic_m_top (hr.mono (by decide)) B_Dyadic_m_top .nil pass0 (by rfl)) (pe_ix ix_tup (pv 3) pe_int (fun _ _ => rfl)) (nomark _)) (pe_one (pe_cmpR op_eq (pe_prop (pv 0) T.cl_Dyadic T.pr_Dyadic_power G_Dyadic_m_power (hr.mono (by decide)) B_Dyadic_m_power .nil pass0 (by rfl)) (pe_ix ix_tup (pv 3) pe_int (fun _ _ => rfl)) (nomark _))))))))
theorem ok_law_asked {P : Program} {w : World} {K : PySem.W.Frag} {mg : Str → Option Value} {base : Heap} (T : Txt K mg) (D_law_reading : O_law_reading P w K mg base) (D_Dyadic_m_from_text : O_Dyadic_m_from_text P w K mg base) (D_law_holds : O_law_holds P w K mg base) : O_law_asked P w K mg base := by
  obtain ⟨fd_law_reading, X_law_reading, G_law_reading⟩ := D_law_reading.ex
  have K_law_reading := X_law_reading.kp
  have B_law_reading := X_law_reading.bindsN (ps := ["text"]) fun _ _ _ _ _ _ us hl => match us, hl with | [_], _ => rfl
  have V_law_reading : Vals [] [] := .nil
  obtain ⟨fd_Dyadic_m_from_text, X_Dyadic_m_from_text, G_Dyadic_m_from_text⟩ := D_Dyadic_m_from_text.ex
  have K_Dyadic_m_from_text := X_Dyadic_m_from_text.kp
  have B_Dyadic_m_from_text := X_Dyadic_m_from_text.bindsN (ps := ["text"]) fun _ _ _ _ _ _ us hl => match us, hl with | [_], _ => rfl
  have V_Dyadic_m_from_text : Vals [] [] := .nil
  obtain ⟨fd_law_holds, X_law_holds, G_law_holds⟩ := D_law_holds.ex
  have K_law_holds := X_law_holds.kp
  have B_law_holds := X_law_holds.bindsN (ps := ["number", "top", "power"]) fun _ _ _ _ _ _ us hl => match us, hl with | [_, _, _], _ => rfl
  have V_law_holds : Vals [] [] := .nil
  obtain ⟨fd, X⟩ := T.d_law_asked
  refine ⟨fd, X, X.ok sc_law_asked (fun vs H Q E h => len_law_asked h) (fun cdv A outer s H vs Q E hr h => ⟨t_law_asked K E, PSs.nox ?_, pure_law_asked T.FBadText vs H Q E h⟩)⟩
  exact (pss_cons (ps_set (i := 1) sc_law_asked.nd rfl (Or.inl rfl) (pe_call G_law_reading (hr.mono (by decide)) rfl T.g__law_reading K_law_reading B_law_reading V_law_reading pass0 (pa_cons (pv 0) pa_nil)))
      (pss_cons (ps_try_as (i := 3) (c := (.ref (He.ga K "PlayError"))) (tb := fun W => (tAsg (tSMethS (He.ga K "Dyadic") (sp_Dyadic_m_from_text K) [] (WE W) (tC (.ref (He.ga K "Dyadic"))) (tCons (tVar 0) tNil)) (gName 2))) (ts := (fun a cls d => tWhen (cls = .ref (He.ga K "BadText") ∧ d = none) (tSeq (tIfS (tOr (tB (tCB (rIsE K (He.ga K "BadText") a) (tCons (tVar 3) (tCons (tC (.ref (He.ga K "BadValue"))) tNil)))) (tOr (tB (tCB (rIsE K (He.ga K "BadText") a) (tCons (tVar 3) (tCons (tC (.ref (He.ga K "NoMove"))) tNil)))) (tB (tCB (rIsE K (He.ga K "BadText") a) (tCons (tVar 3) (tCons (tC (.ref (He.ga K "Unknown"))) tNil)))))) (tRet (tC (.bl false))) tNext) (tRet (tAndV (tOp rIsN (tVar 1) (tC .non)) (tAndV (tCB (rIsE K (He.ga K "BadText") a) (tCons (tVar 3) (tCons (tC (.ref (He.ga K "BadText"))) tNil))) (tCB (rIsE K (He.ga K "BadText") a) (tCons (tVar 3) (tCons (tC (.ty "ValueError")) tNil))))))))) (Wout := fun _ _ _ _ => False) rfl rfl sc_law_asked.nd rfl rfl ⟨rfl, by decide, Or.inl T.g_PlayError⟩ takes0 (fun W pn xe tk _ => (pss_one (ps_set (i := 2) sc_law_asked.nd rfl (Or.inl rfl) (pe_smethS (C8.pe_gc rfl ⟨_, T.g_Dyadic, rfl⟩) T.st_Dyadic_from_text K_Dyadic_m_from_text G_Dyadic_m_from_text (hr.mono (by decide)) B_Dyadic_m_from_text V_Dyadic_m_from_text (fun σ => passAt tk σ) (pa_cons (pv 0) pa_nil))))) (fun a oe cls d pn hz hf => pss_when fun hh => (pss_cons (ps_if (PW.pt (pw_or (pt_val (pe_callB (call_isE T.xc_BadText (zc_at hh hz) hf) rfl T.z_isinstance (by decide +kernel) (pa_cons (pv 3) (pa_cons (C8.pe_gc rfl ⟨_, T.g_BadValue, rfl⟩) pa_nil)))) (pw_or (pt_val (pe_callB (call_isE T.xc_BadText (zc_at hh hz) hf) rfl T.z_isinstance (by decide +kernel) (pa_cons (pv 3) (pa_cons (C8.pe_gc rfl ⟨_, T.g_NoMove, rfl⟩) pa_nil)))) (pw_or1 (pt_val (pe_callB (call_isE T.xc_BadText (zc_at hh hz) hf) rfl T.z_isinstance (by decide +kernel) (pa_cons (pv 3) (pa_cons (C8.pe_gc rfl ⟨_, T.g_Unknown, rfl⟩) pa_nil)))))))) (pss_one (ps_ret pe_bl)) pss_nil)
      (pss_one (ps_ret (pe_and (pe_cmpR op_isN1 (pv 1) pe_non (nomark _)) (pe_and (pe_callB (call_isE T.xc_BadText (zc_at hh hz) hf) rfl T.z_isinstance (by decide +kernel) (pa_cons (pv 3) (pa_cons (C8.pe_gc rfl ⟨_, T.g_BadText, rfl⟩) pa_nil))) (pe_one (pe_callB (call_isE T.xc_BadText (zc_at hh hz) hf) rfl T.z_isinstance (by decide +kernel) (pa_cons (pv 3) (pa_cons (pe_bltn rfl T.z_ValueError (by decide +kernel) rfl) pa_nil)))))))))))
      (pss_one (ps_ret (pe_and (pe_cmpR op_notN1 (pv 1) pe_non (nomark _)) (pe_one (pe_call G_law_holds (hr.mono (by decide)) rfl T.g__law_holds K_law_holds B_law_holds V_law_holds pass0 (pa_cons (pv 2) (pa_cons (pe_ix ix_tup (pv 1) pe_int (fun _ _ => rfl)) (pa_cons (pe_ix ix_tup (pv 1) pe_int (fun _ _ => rfl)) pa_nil))))))))))
theorem ok_law {P : Program} {w : World} {K : PySem.W.Frag} {mg : Str → Option Value} {base : Heap} (T : Txt K mg) (D_law_pair : O_law_pair P w K mg base) (D_law_cell : O_law_cell P w K mg base) (D_law_text : O_law_text P w K mg base) (D_law_digits : O_law_digits P w K mg base) (D_law_spoilt : O_law_spoilt P w K mg base) (D_law_odd : O_law_odd P w K mg base) (D_law_joined : O_law_joined P w K mg base) (D_law_asked : O_law_asked P w K mg base) : O_law P w K mg base := by
  obtain ⟨fd_law_pair, X_law_pair, G_law_pair⟩ := D_law_pair.ex
  have K_law_pair := X_law_pair.kp
  have B_law_pair := X_law_pair.bindsN (ps := ["cell", "shape"]) fun _ _ _ _ _ _ us hl => match us, hl with | [_, _], _ => rfl
  have V_law_pair : Vals [] [] := .nil
  obtain ⟨fd_law_cell, X_law_cell, G_law_cell⟩ := D_law_cell.ex
  have K_law_cell := X_law_cell.kp
  have B_law_cell := X_law_cell.bindsN (ps := ["script", "k"]) fun _ _ _ _ _ _ us hl => match us, hl with | [_, _], _ => rfl
  have V_law_cell : Vals [] [] := .nil
  obtain ⟨fd_law_text, X_law_text, G_law_text⟩ := D_law_text.ex
  have K_law_text := X_law_text.kp
  have B_law_text := X_law_text.bindsN (ps := ["top", "power"]) fun _ _ _ _ _ _ us hl => match us, hl with | [_, _], _ => rfl
  have V_law_text : Vals [] [] := .nil
  obtain ⟨fd_law_digits, X_law_digits, G_law_digits⟩ := D_law_digits.ex
  have K_law_digits := X_law_digits.kp
  have B_law_digits := X_law_digits.bindsN (ps := ["cell", "count"]) fun _ _ _ _ _ _ us hl => match us, hl with | [_, _], _ => rfl
  have V_law_digits : Vals [] [] := .nil
  obtain ⟨fd_law_spoilt, X_law_spoilt, G_law_spoilt⟩ := D_law_spoilt.ex
  have K_law_spoilt := X_law_spoilt.kp
  have B_law_spoilt := X_law_spoilt.bindsN (ps := ["text", "digits"]) fun _ _ _ _ _ _ us hl => match us, hl with | [_, _], _ => rfl
  have V_law_spoilt : Vals [] [] := .nil
  obtain ⟨fd_law_odd, X_law_odd, G_law_odd⟩ := D_law_odd.ex
  have K_law_odd := X_law_odd.kp
  have B_law_odd := X_law_odd.bindsN (ps := ["k"]) fun _ _ _ _ _ _ us hl => match us, hl with | [_], _ => rfl
  have V_law_odd : Vals [] [] := .nil
  obtain ⟨fd_law_joined, X_law_joined, G_law_joined⟩ := D_law_joined.ex
  have K_law_joined := X_law_joined.kp
  have B_law_joined := X_law_joined.bindsN (ps := ["digits", "cell"]) fun _ _ _ _ _ _ us hl => match us, hl with | [_, _], _ => rfl
  have V_law_joined : Vals [] [] := .nil
  obtain ⟨fd_law_asked, X_law_asked, G_law_asked⟩ := D_law_asked.ex
  have K_law_asked := X_law_asked.kp
  have B_law_asked := X_law_asked.bindsN (ps := ["text"]) fun _ _ _ _ _ _ us hl => match us, hl with | [_], _ => rfl
  have V_law_asked : Vals [] [] := .nil
  obtain ⟨fd, X⟩ := T.d_law
  refine ⟨fd, X, X.ok sc_law (fun vs H Q E h => len_law h) (fun cdv A outer s H vs Q E hr h => ⟨t_law K E, PSs.nox ?_, pure_law vs H Q E h⟩)⟩
  exact (pss_cons (ps_set (i := 1) sc_law.nd rfl (Or.inl rfl) (pe_call G_law_pair (hr.mono (by decide)) rfl T.g__law_pair K_law_pair B_law_pair V_law_pair pass0 (pa_cons (pe_call G_law_cell (hr.mono (by decide)) rfl T.g__law_cell K_law_cell B_law_cell V_law_cell pass0 (pa_cons (pv 0) (pa_cons pe_int pa_nil))) (pa_cons (pe_call G_law_cell (hr.mono (by decide)) rfl T.g__law_cell K_law_cell B_law_cell V_law_cell pass0 (pa_cons (pv 0) (pa_cons pe_int pa_nil))) pa_nil))))
      (pss_cons (ps_set (i := 2) sc_law.nd rfl (Or.inl rfl) (pe_call G_law_text (hr.mono (by decide)) rfl T.g__law_text K_law_text B_law_text V_law_text pass0 (pa_cons (pe_ix ix_tup (pv 1) pe_int (fun _ _ => rfl)) (pa_cons (pe_ix ix_tup (pv 1) pe_int (fun _ _ => rfl)) pa_nil))))
      (pss_cons (ps_set (i := 3) sc_law.nd rfl (Or.inl rfl) (pe_call G_law_digits (hr.mono (by decide)) rfl T.g__law_digits K_law_digits B_law_digits V_law_digits pass0 (pa_cons (pe_call G_law_cell (hr.mono (by decide)) rfl T.g__law_cell K_law_cell B_law_cell V_law_cell pass0 (pa_cons (pv 0) (pa_cons pe_int pa_nil))) (pa_cons pe_int pa_nil))))
      (pss_cons (ps_set (i := 4) sc_law.nd rfl (Or.inl rfl) (pe_lst (pa_cons (pv 2) (pa_cons (pe_call G_law_spoilt (hr.mono (by decide)) rfl T.g__law_spoilt K_law_spoilt B_law_spoilt V_law_spoilt pass0 (pa_cons (pv 2) (pa_cons (pe_slice sl_list (pv 3) (po_some pe_int) po_none) pa_nil))) (pa_cons (pe_op op_add_str (pe_op op_add_str (pe_callTy cr_strI rfl T.z_str (by decide +kernel) (pa_cons (pe_ix ix_tup (pv 1) pe_int (fun _ _ => rfl)) pa_nil)) pe_str) (pe_callTy cr_strI rfl T.z_str (by decide +kernel) (pa_cons (pe_op op_shl pe_int (pe_ix ix_tup (pv 1) pe_int (fun _ _ => rfl))) pa_nil))) (pa_cons (pe_call G_law_odd (hr.mono (by decide)) rfl T.g__law_odd K_law_odd B_law_odd V_law_odd pass0 (pa_cons (pe_ix ix_list (pv 3) pe_int (fun _ _ => rfl)) pa_nil)) pa_nil))))))
      (pss_cons (ps_expr (pe_bm PySem.F.plainAttrs_list PySem.F.slot_list_append PySem.F.type_list_append mt_append (pv 4) (pa_cons (pe_call G_law_joined (hr.mono (by decide)) rfl T.g__law_joined K_law_joined B_law_joined V_law_joined pass0 (pa_cons (pe_slice sl_list (pv 3) (po_some pe_int) po_none) (pa_cons (pe_call G_law_cell (hr.mono (by decide)) rfl T.g__law_cell K_law_cell B_law_cell V_law_cell pass0 (pa_cons (pv 0) (pa_cons pe_int pa_nil))) pa_nil))) pa_nil)))
      (pss_cons (ps_expr (pe_bm PySem.F.plainAttrs_list PySem.F.slot_list_append PySem.F.type_list_append mt_append (pv 4) (pa_cons (pe_call G_law_spoilt (hr.mono (by decide)) rfl T.g__law_spoilt K_law_spoilt B_law_spoilt V_law_spoilt pass0 (pa_cons (pe_op op_add_str (pe_call G_law_spoilt (hr.mono (by decide)) rfl T.g__law_spoilt K_law_spoilt B_law_spoilt V_law_spoilt pass0 (pa_cons (pe_op op_add_str (pv 2) pe_str) (pa_cons (pe_slice sl_list (pv 3) (po_some pe_int) po_none) pa_nil))) pe_str) (pa_cons (pe_slice sl_list (pv 3) (po_some pe_int) po_none) pa_nil))) pa_nil)))
      (pss_cons (ps_expr (pe_bm PySem.F.plainAttrs_list PySem.F.slot_list_append PySem.F.type_list_append mt_append (pv 4) (pa_cons (pe_ix ix_list (pe_lst (pa_cons pe_non (pa_cons pe_int (pa_cons pe_bl (pa_cons (pe_lst (pa_cons pe_str pa_nil)) (pa_cons (pe_tup (pa_cons pe_str pa_nil)) (pa_cons (pe_lst pa_nil) (pa_cons pe_int (pa_cons (pe_tup pa_nil) (pa_cons (pe_un un_neg pe_int) (pa_cons (pe_ix ix_tup (pv 1) pe_int (fun _ _ => rfl)) pa_nil))))))))))) (pe_op op_mod (pe_callTy cr_intI rfl T.z_int (by decide +kernel) (pa_cons (pe_ix ix_list (pv 3) pe_int (fun _ _ => rfl)) pa_nil)) pe_int) (fun _ _ => rfl)) pa_nil)))
      (pss_cons (ps_expr (pe_bm PySem.F.plainAttrs_list PySem.F.slot_list_append PySem.F.type_list_append mt_append (pv 4) (pa_cons (pv 2) pa_nil)))
      (pss_cons (ps_for PassesOwn.never rfl (pi_list (pv 4)) (pg_name (i := 5) sc_law.nd rfl (Or.inl rfl))
      (pss_one (ps_if (pt_not (pt_val (pe_call G_law_asked (hr.mono (by decide)) rfl T.g__law_asked K_law_asked B_law_asked V_law_asked pass0 (pa_cons (pv 5) pa_nil)))) (pss_one (ps_ret pe_bl)) pss_nil)))
      (pss_one (ps_ret pe_bl)))))))))))
theorem all_ok {P : Program} {w : World} {K : PySem.W.Frag} {mg : Str → Option Value} {base : Heap} (T : Txt K mg) : O_law P w K mg base := by
  have h_law_digits : O_law_digits P w K mg base := ok_law_digits T 
  have h_law_pair : O_law_pair P w K mg base := ok_law_pair T h_law_digits
  have h_law_cell : O_law_cell P w K mg base := ok_law_cell T 
  have h_law_plain : O_law_plain P w K mg base := ok_law_plain T 
  have h_law_text : O_law_text P w K mg base := ok_law_text T h_law_plain
  have h_law_spoilt : O_law_spoilt P w K mg base := ok_law_spoilt T 
  have h_law_odd : O_law_odd P w K mg base := ok_law_odd T 
  have h_law_joined : O_law_joined P w K mg base := ok_law_joined T 
  have h_law_is_digits : O_law_is_digits P w K mg base := ok_law_is_digits T 
  have h_law_reading : O_law_reading P w K mg base := ok_law_reading T h_law_is_digits h_law_text
  have h_are_digits : O_are_digits P w K mg base := ok_are_digits T 
  have h_is_whole : O_is_whole P w K mg base := ok_is_whole T 
  have h_read_top : O_read_top P w K mg base := ok_read_top T h_are_digits h_is_whole
  have h_read_power : O_read_power P w K mg base := ok_read_power T 
  have h_plain : O_plain P w K mg base := ok_plain T 
  have h_Dyadic_d_init : O_Dyadic_d_init P w K mg base := ok_Dyadic_d_init T h_is_whole h_plain
  have h_Dyadic_m_text : O_Dyadic_m_text P w K mg base := ok_Dyadic_m_text T 
  have h_Dyadic_m_from_text : O_Dyadic_m_from_text P w K mg base := ok_Dyadic_m_from_text T h_read_top h_read_power h_Dyadic_d_init h_Dyadic_m_text
  have h_law_is_integer : O_law_is_integer P w K mg base := ok_law_is_integer T 
  have h_Dyadic_m_top : O_Dyadic_m_top P w K mg base := ok_Dyadic_m_top T 
  have h_Dyadic_m_power : O_Dyadic_m_power P w K mg base := ok_Dyadic_m_power T 
  have h_law_holds : O_law_holds P w K mg base := ok_law_holds T h_law_plain h_law_is_integer h_Dyadic_m_top h_Dyadic_m_power
  have h_law_asked : O_law_asked P w K mg base := ok_law_asked T h_law_reading h_Dyadic_m_from_text h_law_holds
  have h_law : O_law P w K mg base := ok_law T h_law_pair h_law_cell h_law_text h_law_digits h_law_spoilt h_law_odd h_law_joined h_law_asked
  exact h_law
def fs : List (PySem.W.Frag → Bool) := [fun K => (He.Fa.glo "BadText").ok K,
  fun K => (He.Fa.glo "BadValue").ok K,
  fun K => (He.Fa.glo "Dyadic").ok K,
  fun K => (He.Fa.glo "NoMove").ok K,
  fun K => (He.Fa.glo "PlayError").ok K,
  fun K => (He.Fa.glo "Unknown").ok K,
  fun K => (He.Fa.glo "_are_digits").ok K,
  fun K => (He.Fa.glo "_law_asked").ok K,
  fun K => (He.Fa.glo "_law_cell").ok K,
  fun K => (He.Fa.glo "_law_digits").ok K,
  fun K => (He.Fa.glo "_law_holds").ok K,
  fun K => (He.Fa.glo "_law_is_digits").ok K,
  fun K => (He.Fa.glo "_law_is_integer").ok K,
  fun K => (He.Fa.glo "_law_joined").ok K,
  fun K => (He.Fa.glo "_law_odd").ok K,
  fun K => (He.Fa.glo "_law_pair").ok K,
  fun K => (He.Fa.glo "_law_plain").ok K,
  fun K => (He.Fa.glo "_law_reading").ok K,
  fun K => (He.Fa.glo "_law_spoilt").ok K,
  fun K => (He.Fa.glo "_law_text").ok K,
  fun K => (He.Fa.glo "_plain").ok K,
  fun K => (He.Fa.glo "_read_power").ok K,
  fun K => (He.Fa.glo "_read_top").ok K,
  fun K => (He.Fa.glo "is_whole").ok K,
  fun K => (He.Fa.glo "law").ok K,
  fun K => (He.Fa.free "ValueError").ok K,
  fun K => (He.Fa.free "abs").ok K,
  fun K => (He.Fa.free "all").ok K,
  fun K => (He.Fa.free "bool").ok K,
  fun K => (He.Fa.free "int").ok K,
  fun K => (He.Fa.free "isinstance").ok K,
  fun K => (He.Fa.free "len").ok K,
  fun K => (He.Fa.free "min").ok K,
  fun K => (He.Fa.free "range").ok K,
  fun K => (He.Fa.free "str").ok K,
  fun K => (He.Fa.free "type").ok K,
  fun K => (He.Fa.int "LONGEST_TOP" (14)).ok K,
  fun K => (He.Fa.int "MOST_POWER" (40)).ok K,
  fun K => (He.Fa.int "MOST_TOP" (1000000000000)).ok K,
  fun K => (He.Fa.cls "Dyadic").ok K,
  fun K => (He.Fa.exc "BadText").ok K,
  fun K => (He.Fa.exc "BadValue").ok K,
  fun K => excCB K "BadText",
  fun K => decide (PySem.W.exmOne K (.ref (He.ga K "BadText")) (.ref (He.ga K "PlayError")) = some true),
  fun K => inscB K "Dyadic",
  fun K => decide (PySem.W.kitOne K (.ref (He.ga K "BadText")) (.ref (He.ga K "BadText")) = some true),
  fun K => decide (PySem.W.kitOne K (.ref (He.ga K "BadText")) (.ref (He.ga K "BadValue")) = some false),
  fun K => decide (PySem.W.kitOne K (.ref (He.ga K "BadText")) (.ref (He.ga K "NoMove")) = some false),
  fun K => decide (PySem.W.kitOne K (.ref (He.ga K "BadText")) (.ref (He.ga K "Unknown")) = some false),
  fun K => decide (PySem.W.kitOne K (.ref (He.ga K "BadText")) (.type "ValueError") = some true),
  fun K => (He.Fa.meth "Dyadic" "text").ok K,
  fun K => (He.Fa.mkr "Dyadic").ok K,
  fun K => (He.Fa.noat "Dyadic" "_power").ok K,
  fun K => (He.Fa.noat "Dyadic" "_top").ok K,
  fun K => propB K "Dyadic" "power",
  fun K => propB K "Dyadic" "top",
  fun K => statB K "Dyadic" "from_text"]
def fn : List He5.DefA := [{ at_ := fun K => ad_law_digits K, name := "_law_digits", qual := "_law_digits", params := defArgs s_law_digits, body := defBody s_law_digits, scope := defScope s_law_digits, dfl := [] },
  { at_ := fun K => ad_law_pair K, name := "_law_pair", qual := "_law_pair", params := defArgs s_law_pair, body := defBody s_law_pair, scope := defScope s_law_pair, dfl := [] },
  { at_ := fun K => ad_law_cell K, name := "_law_cell", qual := "_law_cell", params := defArgs s_law_cell, body := defBody s_law_cell, scope := defScope s_law_cell, dfl := [] },
  { at_ := fun K => ad_law_plain K, name := "_law_plain", qual := "_law_plain", params := defArgs s_law_plain, body := defBody s_law_plain, scope := defScope s_law_plain, dfl := [] },
  { at_ := fun K => ad_law_text K, name := "_law_text", qual := "_law_text", params := defArgs s_law_text, body := defBody s_law_text, scope := defScope s_law_text, dfl := [] },
  { at_ := fun K => ad_law_spoilt K, name := "_law_spoilt", qual := "_law_spoilt", params := defArgs s_law_spoilt, body := defBody s_law_spoilt, scope := defScope s_law_spoilt, dfl := [] },
  { at_ := fun K => ad_law_odd K, name := "_law_odd", qual := "_law_odd", params := defArgs s_law_odd, body := defBody s_law_odd, scope := defScope s_law_odd, dfl := [] },
  { at_ := fun K => ad_law_joined K, name := "_law_joined", qual := "_law_joined", params := defArgs s_law_joined, body := defBody s_law_joined, scope := defScope s_law_joined, dfl := [] },
  { at_ := fun K => ad_law_is_digits K, name := "_law_is_digits", qual := "_law_is_digits", params := defArgs s_law_is_digits, body := defBody s_law_is_digits, scope := defScope s_law_is_digits, dfl := [] },
  { at_ := fun K => ad_law_reading K, name := "_law_reading", qual := "_law_reading", params := defArgs s_law_reading, body := defBody s_law_reading, scope := defScope s_law_reading, dfl := [] },
  { at_ := fun K => ad_are_digits K, name := "_are_digits", qual := "_are_digits", params := defArgs s_are_digits, body := defBody s_are_digits, scope := defScope s_are_digits, dfl := [] },
  { at_ := fun K => ad_is_whole K, name := "is_whole", qual := "is_whole", params := defArgs s_is_whole, body := defBody s_is_whole, scope := defScope s_is_whole, dfl := [] },
  { at_ := fun K => ad_read_top K, name := "_read_top", qual := "_read_top", params := defArgs s_read_top, body := defBody s_read_top, scope := defScope s_read_top, dfl := [] },
  { at_ := fun K => ad_read_power K, name := "_read_power", qual := "_read_power", params := defArgs s_read_power, body := defBody s_read_power, scope := defScope s_read_power, dfl := [] },
  { at_ := fun K => ad_plain K, name := "_plain", qual := "_plain", params := defArgs s_plain, body := defBody s_plain, scope := defScope s_plain, dfl := [] },
  { at_ := fun K => ad_Dyadic_d_init K, name := "__init__", qual := "Dyadic.__init__", params := defArgs s_Dyadic_d_init, body := defBody s_Dyadic_d_init, scope := defScope s_Dyadic_d_init, dfl := [.int 0] },
  { at_ := fun K => ad_Dyadic_m_text K, name := "text", qual := "Dyadic.text", params := defArgs s_Dyadic_m_text, body := defBody s_Dyadic_m_text, scope := defScope s_Dyadic_m_text, dfl := [] },
  { at_ := fun K => ad_Dyadic_m_from_text K, name := "from_text", qual := "Dyadic.from_text", params := defArgs s_Dyadic_m_from_text, body := defBody s_Dyadic_m_from_text, scope := defScope s_Dyadic_m_from_text, dfl := [] },
  { at_ := fun K => ad_law_is_integer K, name := "_law_is_integer", qual := "_law_is_integer", params := defArgs s_law_is_integer, body := defBody s_law_is_integer, scope := defScope s_law_is_integer, dfl := [] },
  { at_ := fun K => ad_Dyadic_m_top K, name := "top", qual := "Dyadic.top", params := defArgs s_Dyadic_m_top, body := defBody s_Dyadic_m_top, scope := defScope s_Dyadic_m_top, dfl := [] },
  { at_ := fun K => ad_Dyadic_m_power K, name := "power", qual := "Dyadic.power", params := defArgs s_Dyadic_m_power, body := defBody s_Dyadic_m_power, scope := defScope s_Dyadic_m_power, dfl := [] },
  { at_ := fun K => ad_law_holds K, name := "_law_holds", qual := "_law_holds", params := defArgs s_law_holds, body := defBody s_law_holds, scope := defScope s_law_holds, dfl := [] },
  { at_ := fun K => ad_law_asked K, name := "_law_asked", qual := "_law_asked", params := defArgs s_law_asked, body := defBody s_law_asked, scope := defScope s_law_asked, dfl := [] },
  { at_ := fun K => ad_law K, name := "law", qual := "law", params := defArgs s_law, body := defBody s_law, scope := defScope s_law, dfl := [] }]
theorem txt_of {K : PySem.W.Frag} {h : Heap} {mg : Str → Option Value} (X : K.In h) (G : h.Ns mainGlobals mg) (c : SaysM fs fn K) : Txt K mg where
  g_BadText := He.glo_ok X G (c.fact 0 rfl)
  g_BadValue := He.glo_ok X G (c.fact 1 rfl)
  g_Dyadic := He.glo_ok X G (c.fact 2 rfl)
  g_NoMove := He.glo_ok X G (c.fact 3 rfl)
  g_PlayError := He.glo_ok X G (c.fact 4 rfl)
  g_Unknown := He.glo_ok X G (c.fact 5 rfl)
  g__are_digits := He.glo_ok X G (c.fact 6 rfl)
  g__law_asked := He.glo_ok X G (c.fact 7 rfl)
  g__law_cell := He.glo_ok X G (c.fact 8 rfl)
  g__law_digits := He.glo_ok X G (c.fact 9 rfl)
  g__law_holds := He.glo_ok X G (c.fact 10 rfl)
  g__law_is_digits := He.glo_ok X G (c.fact 11 rfl)
  g__law_is_integer := He.glo_ok X G (c.fact 12 rfl)
  g__law_joined := He.glo_ok X G (c.fact 13 rfl)
  g__law_odd := He.glo_ok X G (c.fact 14 rfl)
  g__law_pair := He.glo_ok X G (c.fact 15 rfl)
  g__law_plain := He.glo_ok X G (c.fact 16 rfl)
  g__law_reading := He.glo_ok X G (c.fact 17 rfl)
  g__law_spoilt := He.glo_ok X G (c.fact 18 rfl)
  g__law_text := He.glo_ok X G (c.fact 19 rfl)
  g__plain := He.glo_ok X G (c.fact 20 rfl)
  g__read_power := He.glo_ok X G (c.fact 21 rfl)
  g__read_top := He.glo_ok X G (c.fact 22 rfl)
  g_is_whole := He.glo_ok X G (c.fact 23 rfl)
  g_law := He.glo_ok X G (c.fact 24 rfl)
  z_ValueError := He.free_ok X G (c.fact 25 rfl)
  z_abs := He.free_ok X G (c.fact 26 rfl)
  z_all := He.free_ok X G (c.fact 27 rfl)
  z_bool := He.free_ok X G (c.fact 28 rfl)
  z_int := He.free_ok X G (c.fact 29 rfl)
  z_isinstance := He.free_ok X G (c.fact 30 rfl)
  z_len := He.free_ok X G (c.fact 31 rfl)
  z_min := He.free_ok X G (c.fact 32 rfl)
  z_range := He.free_ok X G (c.fact 33 rfl)
  z_str := He.free_ok X G (c.fact 34 rfl)
  z_type := He.free_ok X G (c.fact 35 rfl)
  c_LONGEST_TOP := He.int_ok X G (c.fact 36 rfl)
  c_MOST_POWER := He.int_ok X G (c.fact 37 rfl)
  c_MOST_TOP := He.int_ok X G (c.fact 38 rfl)
  cl_Dyadic := He.cls_ok (c.fact 39 rfl)
  x_BadText := He.exc_ok (c.fact 40 rfl)
  x_BadValue := He.exc_ok (c.fact 41 rfl)
  xc_BadText := excC_ok (c.fact 42 rfl)
  em_BadText_PlayError := of_decide_eq_true (c.fact 43 rfl)
  ic_Dyadic := insc_ok (c.fact 44 rfl)
  ki_BadText_BadText := of_decide_eq_true (c.fact 45 rfl)
  ki_BadText_BadValue := of_decide_eq_true (c.fact 46 rfl)
  ki_BadText_NoMove := of_decide_eq_true (c.fact 47 rfl)
  ki_BadText_Unknown := of_decide_eq_true (c.fact 48 rfl)
  ki_BadText_ValueError := of_decide_eq_true (c.fact 49 rfl)
  mt_Dyadic_text := He.meth_ok (c.fact 50 rfl)
  mk_Dyadic := He.mkr_ok (c.fact 51 rfl)
  na_Dyadic__power := He.noat_ok (c.fact 52 rfl)
  na_Dyadic__top := He.noat_ok (c.fact 53 rfl)
  pr_Dyadic_power := prop_ok (c.fact 54 rfl)
  pr_Dyadic_top := prop_ok (c.fact 55 rfl)
  st_Dyadic_from_text := stat_ok (c.fact 56 rfl)
  d_law_digits := c.dfn 0 rfl
  d_law_pair := c.dfn 1 rfl
  d_law_cell := c.dfn 2 rfl
  d_law_plain := c.dfn 3 rfl
  d_law_text := c.dfn 4 rfl
  d_law_spoilt := c.dfn 5 rfl
  d_law_odd := c.dfn 6 rfl
  d_law_joined := c.dfn 7 rfl
  d_law_is_digits := c.dfn 8 rfl
  d_law_reading := c.dfn 9 rfl
  d_are_digits := c.dfn 10 rfl
  d_is_whole := c.dfn 11 rfl
  d_read_top := c.dfn 12 rfl
  d_read_power := c.dfn 13 rfl
  d_plain := c.dfn 14 rfl
  d_Dyadic_d_init := c.dfn 15 rfl
  d_Dyadic_m_text := c.dfn 16 rfl
  d_Dyadic_m_from_text := c.dfn 17 rfl
  d_law_is_integer := c.dfn 18 rfl
  d_Dyadic_m_top := c.dfn 19 rfl
  d_Dyadic_m_power := c.dfn 20 rfl
  d_law_holds := c.dfn 21 rfl
  d_law_asked := c.dfn 22 rfl
  d_law := c.dfn 23 rfl
def loose : List PySem.Str := (["_wall", "PlayError", "BadValue", "BadText", "Unknown", "NoMove", "is_whole", "MOST_TOP", "MOST_POWER", "LONGEST_TOP", "Dyadic", "_plain", "exact", "_read_top", "_are_digits", "_read_power", "_law_cell", "_law_digits", "_law_is_integer", "_law_plain", "_law_pair", "_law_holds", "_law_text", "_law_is_digits", "_law_reading", "_law_spoilt", "_law_odd", "_law_joined", "_law_asked"] : List PySem.Str)
abbrev R : PySem.W.OpenRow := PySem.W.OpenLaw.row PySem.Challenge.rw_sumsplay_k05_texts_of_no_number
abbrev hk : PySem.W.Hook := hookM 6 fs fn
def ob (s : PySem.W.SharedT) : He.AlD := obsMG 6 fs fn (HandSHeadRun.getT s)
theorem ob_eq (s : PySem.W.SharedT) : ob s = hk.obs s.abs := obsMG_eq (HandSHeadRun.getT_eq s)
theorem run (w : World) : HandSHeadRun.RunEq R (PySem.W.view R.prog [33]) hk ob 20000 loose w := by
  intro os
  kernel_rfl
theorem facts {P : Program} {w : World} {K : PySem.W.Frag} {h : Heap} {mg : Str → Option Value} {f : Addr} (X : K.In h) (G : h.Ns mainGlobals mg) (hfa : mg ("law" : Str) = some (.ref f)) (c : SaysM fs fn K) (hg : (He.Fa.glo "law").ok K = true) :
    ∃ fd : FuncData, (∀ (s : Shared) (v : Value), BindsTo s fd ⟨[v], []⟩ [("script", v)]) ∧ ∀ base : Heap, K.In base → base.Ns mainGlobals mg → FnOk P w K mg base CX0 6 f fd ["script"] (sp_law K) := by
  have T := txt_of X G c
  obtain ⟨fd, F⟩ := T.d_law
  have e := hfa.symm.trans (He.glo_ok X G hg)
  cases e
  have b := FunD.bindsA (ps := ["script"]) F fun _ _ _ _ _ _ us hl => match us, hl with | [_], _ => rfl
  refine ⟨fd, fun s v => b s [v] rfl, fun base _ _ => ?_⟩
  obtain ⟨fd2, F2, G2⟩ := (all_ok (P := P) (w := w) (base := base) T).ex
  have e2 : fd2 = fd := fd_same F2 F
  rw [← e2]; exact G2
end Mine
open PySem PySem.W PySem.Calls PyProof.Rows
set_option maxRecDepth 100000 in
set_option maxHeartbeats 0 in
theorem PySem.Challenge.cw_sumsplay_k05_texts_of_no_number_holds : PySem.Challenge.rw_sumsplay_k05_texts_of_no_number.Holds := by
  w_on; o_law
  refine HandSHeadRun.head_any (r := OpenLaw.row PySem.Challenge.rw_sumsplay_k05_texts_of_no_number) (q := view (OpenLaw.row PySem.Challenge.rw_sumsplay_k05_texts_of_no_number).prog [33]) (H := Mine.hk) (ob := Mine.ob) (M := 20000) (loose := Mine.loose) (d := HandSHeadRun.topDef (OpenLaw.row PySem.Challenge.rw_sumsplay_k05_texts_of_no_number).prog 33) (kwd := []) Mine.ob_eq
    (by kernel_rfl) (fun s => by kernel_rfl) Mine.run (by kernel_rfl) (by kernel_rfl) (by kernel_rfl) (by rfl) (by first | assumption | decide +kernel) (by decide +kernel) ⟨rfl, rfl, rfl, rfl, rfl, by decide +kernel⟩ ?hw ?hc
  case hw => w_witness2
  case hc =>
    refine L2.walk_ofE (l := PySem.Challenge.rw_sumsplay_k05_texts_of_no_number) (n := 63) (k := 6) (x := "script") (CX := L2.CX0) rfl (by decide) (by kernel_rfl) ⟨rfl, by decide, by decide⟩ ?F (fun _ _ _ _ z => z)
    intro w mg fa h Y G hmg0
    obtain ⟨K, KX, c⟩ := Y
    have hmg : mg ("law" : PySem.Str) = some (.ref fa) := by
      have e : (HandSHeadRun.topDef (OpenLaw.row PySem.Challenge.rw_sumsplay_k05_texts_of_no_number).prog 33).name = ("law" : PySem.Str) := by kernel_rfl
      rw [← e]
      exact hmg0
    obtain ⟨fd, hb, hF⟩ := Mine.facts (P := (PySem.Challenge.rw_sumsplay_k05_texts_of_no_number).prog) (w := w) KX G hmg c (c.fact 24 rfl)
    exact ⟨K, fd, Mine.sp_law K, KX, hb, fun H a ns hl _ hS => ⟨⟨a, ns, rfl, hS⟩, fun v H' e => e⟩, hF⟩
