import PyProof.Rows.All
import Wide.All
import OpenK.AllK
import Wide.FinOn
import HandS.ForMost
import HandS.ForExc
import HandS.Defaults
import HandS.MakeKw
import HandS.MakeKwOnly
import HandS.IsInst
import HandS.Codes
import HandS.Property
import HandS.Evl
import HandS.Steps
import HandS.More
import HandS.WideBits
import HandS.Wide
import HandS.FStr
import HandS.HeadEnd
import HandS.HeadHook2
import HandS.HeadHook4
import HandS.HeadNt
import HandS.Head0
import HandS.Head1
import HandS.Head2
import HandS.ExcIs
import KE.KOpsOwn
import KE.BitLaws
import KE.KeyNested
import PyProof.Rows.TupDisplay
import HandS.Dict
import HandS.SetFor
import HandS.Strs
import PyProof.Rows.SetFrom
import HandS.TupAny
import HandS.SortInts
import HandS.WordsExc
import HandS.ExcOwn
import HandS.CallSlots
import HandS.Iter
import KE.GoesEnum
import KE.GoesMore
import HandS.Star
import KE.KEqDeep
import HandS.Style
import HandS.TupMul
import HandS.Text
import HandS.HeadHook3
import KE.KSetDisp
import KE.GoesSet
import PyProof.StrBlock2
import HandS.DictComp
import HandS.Small
import HandS.Flow
import HandS.Deep
import HandS.DeepEq
import HandS.DictTup
import HandS.TupLen
import HandS.Walk
import PySem.Challenge.RW_sumsplay_k59_parts_of_floors
set_option Elab.async false
set_option linter.all false
set_option maxRecDepth 100000
set_option maxHeartbeats 4000000
namespace Mine
open PySem PySem.Spec PyProof.Rows L2
/-! a target o.f -/
section
variable {X : Cx} {o : Expr} {f : Str} {pos : Pos} {ta : TE}
def gFld (K : PySem.W.Frag) (ta : TE) (f : Str) : TG := fun v σ H Q => ta σ H fun x H1 =>
  ∃ a C dx fs, x = V.ref a ∧ H1 a = some (HO.ins C dx fs) ∧ Cls K C ∧ NoAttr K C f ∧ fs.length < 1000 ∧ Q σ (upd H1 a (HO.ins C dx (putF f v fs)))
theorem pg_fld (ho : PE X o ta) : PG X (.Attribute o f pos) (gFld X.K ta f) := by
  constructor
  intro pins s σ H v u Q I rv hw
  rw [assign_Attribute]
  apply wpAny_bind
  apply wpAny_holding
  refine thn (ho.run pins s σ H _ I hw) ?_
  rintro ov s1 ⟨x, H1, I1, rx, a, C, dx, fs, rfl, ea, hc, hn, hl, q⟩
  cases (show ov = Value.ref a from rx)
  apply wpAny_bind
  apply wpAny_standAt
  apply wpAny_bind
  apply wpAny_holding
  refine setattr_ok I1 ea hc hn hl rv ?_
  intro s3 I3
  exact wpAny_release ⟨σ, _, I3, q⟩
end

open Evl (Ex)
/-! readings by short names -/
abbrev rAddI : R2 := rI0 fun i j => .int (i + j)
abbrev rSubI : R2 := rI0 fun i j => .int (i - j)
abbrev rMulI : R2 := rI CMul fun i j => .int (i * j)
abbrev rDivI : R2 := rI CDiv fun i j => .int (i / j)
abbrev rDivW : R2 := rI CDivW fun i j => .int (i / j)
abbrev rMulW : R2 := rI CMulW fun i j => .int (i * j)
abbrev rModI : R2 := rI (fun _ j => 0 < j) fun i j => .int (i % j)
abbrev rPowI : R2 := rI CPow fun i j => .int (i ^ j.toNat)
abbrev rShlI : R2 := rI CPow fun i j => .int (i * 2 ^ j.toNat)
abbrev rShrI : R2 := rI (fun _ j => 0 ≤ j) fun i j => .int (i / 2 ^ j.toNat)
abbrev rAndI : R2 := rI0 fun i j => .int (Builtin.bitAnd i j)
abbrev rOrI : R2 := rI0 fun i j => .int (Builtin.bitOr i j)
abbrev rXorI : R2 := rI0 fun i j => .int (Builtin.bitXor i j)
abbrev rLtI : R2 := rI0 fun i j => .bl (decide (i < j))
abbrev rLeI : R2 := rI0 fun i j => .bl (decide (i ≤ j))
abbrev rGtI : R2 := rI0 fun i j => .bl (decide (j < i))
abbrev rGeI : R2 := rI0 fun i j => .bl (decide (j ≤ i))
abbrev rNegI : V → Hp → VK → Prop := rU fun i => .int (-i)
def rIsTy : R2 := fun x y H Q => ∃ a b, x = V.ty a ∧
  y = V.ty b ∧ Q (.bl (decide (a = b))) H
def rIntI : List V → Hp → VK → Prop := fun xs H Q => ∃ i, xs = [V.int i] ∧ Q (.int i) H
def rAbsI : List V → Hp → VK → Prop := fun xs H Q => ∃ i, xs = [V.int i] ∧ Q (.int (if i < 0 then -i else i)) H
def rMax2 : List V → Hp → VK → Prop := fun xs H Q => ∃ i j, xs = [V.int i, V.int j] ∧
  Q (.int (if j > i then j else i)) H
def rMin2 : List V → Hp → VK → Prop := fun xs H Q => ∃ i j, xs = [V.int i, V.int j] ∧
  Q (.int (if j < i then j else i)) H
def rLenQ (K : PySem.W.Frag) : List V → Hp → VK → Prop := fun xs H Q => ∃ p ys, xs = [V.ref p] ∧
  (SqL K H p ys ∨ SqT K H p ys) ∧ Q (.int ys.length) H
def rLenS : List V → Hp → VK → Prop := fun xs H Q => ∃ z, xs = [V.str z] ∧ z.length ≤ sizeLine ∧
  Q (.int z.length) H
def rListQ (K : PySem.W.Frag) : List V → Hp → VK → Prop := fun xs H Q => ∃ p ys, xs = [V.ref p] ∧
  (SqL K H p ys ∨ SqT K H p ys) ∧ ∀ l, H l = none → Q (.ref l) (upd H l (.lst ys))
def rStrI : List V → Hp → VK → Prop := fun xs H Q => ∃ i, xs = [V.int i] ∧ i.natAbs.log2 < 1920 ∧
  Q (.str (toString i)) H
def rIsC (C : Addr) : List V → Hp → VK → Prop := fun xs H Q => ∃ a dx fs, xs = [V.ref a, V.ref C] ∧
  H a = some (HO.ins C dx fs) ∧ Q (.bl true) H
def rCatS : R2 := fun x y H Q => ∃ i j, x = V.str i ∧ y = V.str j ∧ i.length + j.length ≤ sizeLine ∧
  Q (.str (i ++ j)) H
section
variable {X : Cx}
theorem cr_intI : CallR X (.type "int") rIntI := fun pins s σ H xs us Q I r h =>
  call_int1 pins s σ H xs us Q I r (Or.inl h)
theorem cr_absI : CallR X (.builtin "abs") rAbsI := call_abs
theorem cr_max2 (hc : X.calm = true) : CallR X (.builtin "max") rMax2 := call_max2 hc
theorem cr_min2 (hc : X.calm = true) : CallR X (.builtin "min") rMin2 := call_min2 hc
theorem cr_lenQ : CallR X (.builtin "len") (rLenQ X.K) := call_len_seq
theorem cr_lenS : CallR X (.builtin "len") rLenS := call_len_str
theorem cr_listQ : CallR X (.type "list") (rListQ X.K) := call_list_of
theorem cr_strI : CallR X (.type "str") rStrI := call_str_int
theorem cr_isC {C : Addr} (c : C8.InsC X.K C) : CallR X (.builtin "isinstance") (rIsC C) := C8.call_isC c
theorem cst_ok {x : Str} {i : Int} (h : ∃ t, X.mg x = some (.int i t)) : ∃ u, X.mg x = some u ∧ RelV (.int i) u :=
  let ⟨t, e⟩ := h
  ⟨_, e, t, rfl⟩
end
/-! promises: what is asked, what is given, what is raised -/
def spR (pre : List V → Hp → Prop) (post : List V → Hp → V → Hp → Prop) : Sp := fun vs H Q _ =>
  pre vs H ∧ ∀ v H', post vs H v H' → Q v H'
def spX (pre : List V → Hp → Prop) (post : List V → Hp → V → Hp → Prop) (ex : List V → Hp → Value → Option Addr → Hp → Prop) : Sp := fun vs H Q E =>
  pre vs H ∧ (∀ v H', post vs H v H' → Q v H') ∧ ∀ c d H', ex vs H c d H' → E c d H'
structure DefOk (P : Program) (w : World) (K : PySem.W.Frag) (mg : Str → Option Value) (base : Heap) (CX : CXT) (k : Nat) (x qual : Str) (st : Stmt) (dvs : List V) (f : Addr) (ps : List Str) (sp : Sp) : Prop where
  ex : ∃ fd, FunD K x qual (defArgs st) (defBody st) (defScope st) dvs [] f fd ∧ FnOk P w K mg base CX k f fd ps sp
/-! readings, step by step, forwards -/
section
variable {σ : L2.St} {H : Hp} {Q : VK} {ta tb tc te tv : TE} {K : PySem.W.Frag} {D : Ends}
theorem k_var {i : Nat} {v : V} (h : σ[i]? = some (some v)) (q : Q v H) : tVar i σ H Q := ⟨v, h, q⟩
theorem k_c {v : V} (q : Q v H) : tC v σ H Q := q
theorem k_op {r : R2} (q : ta σ H fun x H1 => tb σ H1 fun y H2 => r x y H2 Q) : tOp r ta tb σ H Q := q
theorem k_un {r : V → Hp → VK → Prop} (q : ta σ H fun x H1 => r x H1 Q) : tUn r ta σ H Q := q
theorem k_I0 {g : Int → Int → V} {i j : Int} (q : Q (g i j) H) : rI0 g (.int i) (.int j) H Q := ⟨i, j, rfl, rfl, q⟩
theorem k_I {C : Int → Int → Prop} {g : Int → Int → V} {i j : Int} (c : C i j) (q : Q (g i j) H) : rI C g (.int i) (.int j) H Q := ⟨i, j, rfl, rfl, c, q⟩
theorem k_U {g : Int → V} {i : Int} (q : Q (g i) H) : rU g (.int i) H Q := ⟨i, rfl, q⟩
theorem k_eq {x y : V} (s : scal x y = true) (q : Q (.bl (decide (x = y))) H) : rEq x y H Q := ⟨s, q⟩
theorem k_ne {x y : V} (s : scal x y = true) (q : Q (.bl (!decide (x = y))) H) : rNe x y H Q := ⟨s, q⟩
theorem k_eqI {i j : Int} (q : Q (.bl (decide (i = j))) H) : rEq (.int i) (.int j) H Q := ⟨rfl, by
  have e : decide (V.int i = V.int j) = decide (i = j) := by simp
  rw [e]; exact q⟩
theorem k_eqB {i j : Bool} (q : Q (.bl (decide (i = j))) H) : rEq (.bl i) (.bl j) H Q := ⟨rfl, by
  have e : decide (V.bl i = V.bl j) = decide (i = j) := by simp
  rw [e]; exact q⟩
theorem k_neI {i j : Int} (q : Q (.bl (decide (i ≠ j))) H) : rNe (.int i) (.int j) H Q := ⟨rfl, by
  have e : (!decide (V.int i = V.int j)) = decide (i ≠ j) := by simp
  rw [e]; exact q⟩
theorem k_isTy {a b : String} (q : Q (.bl (decide (a = b))) H) : rIsTy (.ty a) (.ty b) H Q := ⟨a, b, rfl, rfl, q⟩
theorem k_isN {x : V} (q : Q (.bl (decide (x = .non))) H) : rIsN x .non H Q := ⟨rfl, q⟩
theorem k_notN {x : V} (q : Q (.bl (!decide (x = .non))) H) : rNotN x .non H Q := ⟨rfl, q⟩
theorem k_ixL {p : Addr} {xs : List V} {i : Int} {v : V} (h : SqL K H p xs) (e : atI xs i = some v) (q : Q v H) : rIxL K (.ref p) (.int i) H Q := ⟨p, xs, i, v, rfl, rfl, h, e, q⟩
theorem k_ixT {p : Addr} {xs : List V} {i : Int} {v : V} (h : SqT K H p xs) (e : atI xs i = some v) (q : Q v H) : rIxT K (.ref p) (.int i) H Q := ⟨p, xs, i, v, rfl, rfl, h, e, q⟩
theorem k_andV (q : ta σ H fun x H1 => ∃ c, x = .bl c ∧ if c = true then tb σ H1 Q else Q (.bl false) H1) : tAndV ta tb σ H Q := q
theorem k_orV (q : ta σ H fun x H1 => ∃ c, x = .bl c ∧ if c = true then Q (.bl true) H1 else tb σ H1 Q) : tOrV ta tb σ H Q := q
theorem k_notV (q : ta σ H fun x H1 => ∃ c, x = .bl c ∧ Q (.bl (!c)) H1) : tNotV ta σ H Q := q
theorem k_if {t : TT} (q : t σ H fun c H1 => if c = true then ta σ H1 Q else tb σ H1 Q) : tIf t ta tb σ H Q := q
theorem k_chain {r r' : R2} (q : ta σ H fun x H1 => tb σ H1 fun y H2 => r x y H2 fun z H3 => ∃ k, z = .bl k ∧ (if k = true then tc σ H3 fun w' H4 => r' y w' H4 Q else Q (.bl false) H3)) : tChain r r' ta tb tc σ H Q := q
theorem k_bl {P : Bool → Prop} {c : Bool} (q : P c) : ∃ k, V.bl c = V.bl k ∧ P k := ⟨c, rfl, q⟩
theorem k_tup {t : TA} (q : t σ H fun xs H1 => xs.length ≤ sizeLine ∧ ∀ p, H1 p = none → Q (.ref p) (upd H1 p (.tup xs))) : tTup t σ H Q := q
theorem k_lst {t : TA} (q : t σ H fun xs H1 => xs.length ≤ sizeLine ∧ ∀ p, H1 p = none → Q (.ref p) (upd H1 p (.lst xs))) : tLst t σ H Q := q
theorem k_cb {r : List V → Hp → VK → Prop} {t : TA} (q : t σ H fun vs H1 => r vs H1 Q) : tCB r t σ H Q := q
theorem k_nil {R : List V → Hp → Prop} (q : R [] H) : tNil σ H R := q
theorem k_cons {t : TA} {R : List V → Hp → Prop} (q : ta σ H fun x H1 => t σ H1 fun xs H2 => R (x :: xs) H2) : tCons ta t σ H R := q
theorem k_rInt {i : Int} (q : Q (.int i) H) : rIntI [.int i] H Q := ⟨i, rfl, q⟩
theorem k_rAbs {i : Int} (q : Q (.int (if i < 0 then -i else i)) H) : rAbsI [.int i] H Q := ⟨i, rfl, q⟩
theorem k_rMax {i j : Int} (q : Q (.int (if j > i then j else i)) H) : rMax2 [.int i, .int j] H Q := ⟨i, j, rfl, q⟩
theorem k_rMin {i j : Int} (q : Q (.int (if j < i then j else i)) H) : rMin2 [.int i, .int j] H Q := ⟨i, j, rfl, q⟩
theorem k_rLenL {p : Addr} {ys : List V} (h : SqL K H p ys) (q : Q (.int ys.length) H) : rLenQ K [.ref p] H Q := ⟨p, ys, rfl, Or.inl h, q⟩
theorem k_rLenT {p : Addr} {ys : List V} (h : SqT K H p ys) (q : Q (.int ys.length) H) : rLenQ K [.ref p] H Q := ⟨p, ys, rfl, Or.inr h, q⟩
theorem k_rStr {i : Int} (h : i.natAbs.log2 < 1920) (q : Q (.str (toString i)) H) : rStrI [.int i] H Q := ⟨i, rfl, h, q⟩
theorem k_rIsC {C a dx : Addr} {fs : List (Str × V)} (h : H a = some (.ins C dx fs)) (q : Q (.bl true) H) : rIsC C [.ref a, .ref C] H Q := ⟨a, dx, fs, rfl, h, q⟩
theorem k_isi {x c : V} {t u : Value} {b : Bool} (hc : ClsV c u) (ht : TyX K H x t) (e : PySem.W.kitOne K t u = some b) (q : Q (.bl b) H) : rIsi K [x, c] H Q := ⟨x, c, t, u, b, rfl, hc, ht, e, q⟩
theorem k_fld {a C dx : Addr} {fs : List (Str × V)} {f : Str} {v : V} (ha : ta σ H fun x H1 => x = .ref a ∧ H1 a = some (.ins C dx fs) ∧ Cls K C ∧ NoAttr K C f ∧ fs.lookup f = some v ∧ Q v H1)
    (mono : ∀ Q1 Q2 : VK, (∀ x H1, Q1 x H1 → Q2 x H1) → ta σ H Q1 → ta σ H Q2) : tFld K ta f σ H Q :=
  mono _ _ (fun _ _ ⟨h1, h2, h3, h4, h5, h6⟩ => ⟨a, C, dx, fs, v, h1, h2, h3, h4, h5, h6⟩) ha
theorem k_call {sp : Sp} {dvs : List V} {E : XK} {t : TA} (q : t σ H fun vs H1 => sp (vs ++ dvs) H1 Q E) : tCall sp dvs E t σ H Q := q
theorem k_meth {C : Addr} {m : Str} {sp : Sp} {dvs : List V} {E : XK} {t : TA} (q : ta σ H fun x H1 => ∃ a dx fs, x = .ref a ∧ H1 a = some (.ins C dx fs) ∧ fs.lookup m = none ∧ t σ H1 fun vs H2 => sp (x :: (vs ++ dvs)) H2 Q E) : tMeth C m sp dvs E ta t σ H Q := q
theorem k_make {C : Addr} {sp : Sp} {dvs : List V} {E : XK} {t : TA} (q : t σ H fun vs H1 => ∀ x dx, H1 x = none → H1 dx = none → dx ≠ x → sp (.ref x :: (vs ++ dvs)) (upd (upd H1 dx (.own x)) x (.ins C dx [])) (fun v H2 => v = .non ∧ Q (.ref x) H2) E) : tMake C sp dvs E t σ H Q := q
theorem k_prop {C : Addr} {sp : Sp} {dvs : List V} {E : XK} (q : ta σ H fun x H1 => ∃ a dx fs, x = .ref a ∧ H1 a = some (.ins C dx fs) ∧ sp (.ref a :: dvs) H1 Q E) : tProp C sp dvs E ta σ H Q := q
/-! tests -/
variable {t u : TT} {R : Bool → Hp → Prop}
theorem k_test (q : te σ H fun x H' => ∃ k, x = .bl k ∧ R k H') : tTest te σ H R := q
theorem k_B (q : te σ H fun x H' => ∃ k, x = .bl k ∧ R k H') : tB te σ H R := q
theorem k_and (q : t σ H fun c H1 => if c = true then u σ H1 R else R false H1) : tAnd t u σ H R := q
theorem k_or (q : t σ H fun c H1 => if c = true then R true H1 else u σ H1 R) : tOr t u σ H R := q
theorem k_not (q : t σ H fun c H1 => R (!c) H1) : tNot t σ H R := q
/-! statements -/
variable {t1 t2 : TS} {g : TG}
theorem k_seq (q : t1 { D with nx := t2 D } σ H) : tSeq t1 t2 D σ H := q
theorem k_next (q : D.nx σ H) : tNext D σ H := q
theorem k_asg (q : te σ H fun x H1 => g x σ H1 D.nx) : tAsg te g D σ H := q
theorem k_name {i : Nat} {v : V} {R : L2.St → Hp → Prop} (q : R (σ.set i (some v)) H) : gName i v σ H R := q
theorem k_ret (q : te σ H D.rt) : tRet te D σ H := q
theorem k_drop (q : te σ H fun _ H1 => D.nx σ H1) : tDrop te D σ H := q
theorem k_ifS (q : t σ H fun b H1 => if b = true then t1 D σ H1 else t2 D σ H1) : tIfS t t1 t2 D σ H := q
theorem k_gtup {n : Nat} {tg : TGs} {a : Addr} {xs : List V} {R : L2.St → Hp → Prop} (h : SqT K H a xs) (l : xs.length = n) (q : tg xs σ H R) : gTup K n tg (.ref a) σ H R := ⟨a, xs, rfl, h, l, q⟩
theorem k_gcons {tg : TG} {tr : TGs} {v : V} {r : List V} {R : L2.St → Hp → Prop} (q : tg v σ H fun σ' H' => tr r σ' H' R) : gCons tg tr (v :: r) σ H R := ⟨v, r, rfl, q⟩
theorem k_gnil {R : L2.St → Hp → Prop} (q : R σ H) : gNil [] σ H R := ⟨rfl, q⟩
theorem k_gfld {a C dx : Addr} {i : Nat} {fs : List (Str × V)} {f : Str} {v : V} {R : L2.St → Hp → Prop} (hs : σ[i]? = some (some (.ref a))) (h : H a = some (.ins C dx fs)) (hc : Cls K C) (hn : NoAttr K C f) (hl : fs.length < 1000) (q : R σ (upd H a (.ins C dx (putF f v fs)))) : gFld K (tVar i) f v σ H R :=
  ⟨_, hs, a, C, dx, fs, rfl, h, hc, hn, hl, q⟩
theorem k_fldv {a C dx : Addr} {i : Nat} {fs : List (Str × V)} {f : Str} {v : V} (hs : σ[i]? = some (some (.ref a))) (h : H a = some (.ins C dx fs)) (hc : Cls K C) (hn : NoAttr K C f) (hl : fs.lookup f = some v) (q : Q v H) : tFld K (tVar i) f σ H Q :=
  ⟨_, hs, a, C, dx, fs, v, rfl, h, hc, hn, hl, q⟩
theorem k_iteT {A B : Prop} (q : A) : if true = true then A else B := q
theorem k_iteF {A B : Prop} (q : B) : if false = true then A else B := by simpa using q
theorem k_pow12 (q : Q (.int 1000000000000) H) : rPowI (.int 10) (.int 12) H Q := k_I ⟨by decide, by decide, by decide⟩ q
theorem k_pow11 (q : Q (.int 100000000000) H) : rPowI (.int 10) (.int 11) H Q := k_I ⟨by decide, by decide, by decide⟩ q
theorem k_pow9 (q : Q (.int 1000000000) H) : rPowI (.int 10) (.int 9) H Q := k_I ⟨by decide, by decide, by decide⟩ q
theorem k_pow30 (q : Q (.int 1000000000000000000000000000000) H) : rPowI (.int 10) (.int 30) H Q := k_I ⟨by decide, by decide, by decide⟩ q
theorem k_pow18 (q : Q (.int 1000000000000000000) H) : rPowI (.int 10) (.int 18) H Q := k_I ⟨by decide, by decide, by decide⟩ q
theorem k_minL {i j : Int} (q : ∀ m, m ≤ i → m ≤ j → (m = i ∨ m = j) → Q (.int m) H) : rMin2 [.int i, .int j] H Q := by
  refine ⟨i, j, rfl, ?_⟩
  by_cases h : j < i
  · rw [if_pos h]; exact q j (by omega) (by omega) (Or.inr rfl)
  · rw [if_neg h]; exact q i (by omega) (by omega) (Or.inl rfl)
theorem k_maxL {i j : Int} (q : ∀ m, i ≤ m → j ≤ m → (m = i ∨ m = j) → Q (.int m) H) : rMax2 [.int i, .int j] H Q := by
  refine ⟨i, j, rfl, ?_⟩
  by_cases h : j > i
  · rw [if_pos h]; exact q j (by omega) (by omega) (Or.inr rfl)
  · rw [if_neg h]; exact q i (by omega) (by omega) (Or.inl rfl)
theorem k_shl1 {j : Int} (h : 0 ≤ j ∧ j ≤ 1000000) (q : ∀ m : Int, 1 ≤ m → m = 2 ^ j.toNat → Q (.int m) H) : rShlI (.int 1) (.int j) H Q := by
  refine k_I ⟨h.1, h.2, by decide⟩ ?_
  rw [Int.one_mul]
  refine q _ ?_ rfl
  have hp : (0 : Int) < 2 ^ j.toNat := Int.pow_pos (by decide)
  omega
theorem k_iteNT {A B : Prop} (q : B) : if (!true) = true then A else B := by simpa using q
theorem k_iteNF {A B : Prop} (q : A) : if (!false) = true then A else B := by simpa using q
theorem k_raise {E : XK} {c : Value} (q : E c none H) : tRaise E c D σ H := q
theorem k_iteD {p A B : Prop} [Decidable p] (h1 : p → A) (h2 : ¬ p → B) : if decide p = true then A else B := by
  by_cases h : p
  · rw [if_pos (decide_eq_true h)]; exact h1 h
  · rw [if_neg (by simpa using h)]; exact h2 h
theorem k_iteN {p A B : Prop} [Decidable p] (h1 : ¬ p → A) (h2 : p → B) : if (!decide p) = true then A else B := by
  by_cases h : p
  · rw [if_neg (by simpa using h)]; exact h2 h
  · rw [if_pos (by simpa using h)]; exact h1 h
theorem k_iteB {b : Bool} {A B : Prop} (h1 : b = true → A) (h2 : b = false → B) : if b = true then A else B := by
  cases b
  · rw [if_neg (by decide)]; exact h2 rfl
  · exact h1 rfl
theorem k_sq {a : Addr} {xs : List V} (h : H a = some (.lst xs)) : SqL K H a xs := Or.inl (Or.inl h)
theorem k_st {a : Addr} {xs : List V} (h : H a = some (.tup xs)) : SqT K H a xs := Or.inl (Or.inl h)
theorem k_while (W : Nat → L2.St → Hp → Prop) (m0 : Nat) (h0 : W m0 σ H)
    (hs : ∀ m σ H, W m σ H → t σ H fun b H1 => if b = true then ∃ N : L2.St → Hp → Prop, (∀ σ' H', N σ' H' → ∃ m', m' < m ∧ W m' σ' H') ∧
      t1 { D with nx := N, ct := N, bk := D.nx } σ H1 else D.nx σ H1) : tWhile t t1 D σ H := ⟨W, ⟨m0, h0⟩, hs⟩
/-- what a loop asks, by a word of its turns -/
def forK (g : TG) (tb : TS) (D : Ends) (σ : L2.St) : It → Hp → Prop := fun J H1 =>
  ∃ W : Nat → Nat → L2.St → Hp → Prop, (∃ m, W 0 m σ H1) ∧
    ∀ i m σ H, W i m σ H → (J.stop i H ∧ D.nx σ H) ∨ (J.go i H ∧
      ∃ N : L2.St → Hp → Prop, (∀ σ' H', N σ' H' → ∃ m', m' < m ∧ W (i + 1) m' σ' H') ∧
        ∀ x H', J.yld i H x H' → g x σ H' fun σ2 H2 => tb { D with nx := N, ct := N, bk := D.nx } σ2 H2)
theorem k_for {wi : TI} {g : TG} {tb : TS} (q : wi σ H (forK g tb D σ)) : tFor wi g tb D σ H := q
theorem k_rng1 {ta : TA} {R : It → Hp → Prop} (q : ta σ H fun vs H1 => ∃ j : Int, vs = [.int j] ∧
  -(2 ^ 62) ≤ j ∧ j < 2 ^ 62 ∧ R (Itr 0 j.toNat) H1) : iRng1 ta σ H R := q
theorem k_rng2 {ta : TA} {R : It → Hp → Prop} (q : ta σ H fun vs H1 => ∃ i j : Int, vs = [.int i, .int j] ∧
  (-(2 ^ 62) ≤ i ∧ i < 2 ^ 62 ∧ -(2 ^ 62) ≤ j ∧ j < 2 ^ 62) ∧ R (Itr i (j - i).toNat) H1) : iRng2 ta σ H R := q
theorem k_ilist {tl : TE} {R : It → Hp → Prop} (q : tl σ H fun x H1 => ∃ a, x = .ref a ∧
  (∃ xs, SqL K H1 a xs) ∧ R (Itl K a) H1) : iList K tl σ H R := q
theorem k_itup {tl : TE} {R : It → Hp → Prop} (q : tl σ H fun x H1 => ∃ a, x = .ref a ∧
  (∃ xs, SqT K H1 a xs) ∧ R (Itt K a) H1) : iTup K tl σ H R := q
theorem forK_range {g : TG} {tb : TS} {n : Nat} (Pv : Nat → L2.St → Hp → Prop) (h0 : Pv 0 σ H)
    (hs : ∀ (i : Nat) σ' H', i < n → Pv i σ' H' → g (.int (i : Int)) σ' H' fun σ2 H2 => tb { D with nx := Pv (i + 1), ct := Pv (i + 1), bk := D.nx } σ2 H2)
    (hd : ∀ σ' H', Pv n σ' H' → D.nx σ' H') : forK g tb D σ (Itr 0 n) H := by
  refine for_range (lo := 0) (n := n) Pv h0 (fun i σ' H' hi p => ?_) hd
  have e0 : (0 : Int) + (i : Int) = (i : Int) := Int.zero_add _
  rw [e0]
  exact hs i σ' H' hi p
theorem forK_list {g : TG} {tb : TS} {a : Addr} {xs : List V} (Pv : Nat → L2.St → Hp → Prop) (h0 : Pv 0 σ H)
    (hl : ∀ i σ' H', i ≤ xs.length → Pv i σ' H' → SqL K H' a xs)
    (hs : ∀ i x σ' H', xs[i]? = some x → Pv i σ' H' → g x σ' H' fun σ2 H2 => tb { D with nx := Pv (i + 1), ct := Pv (i + 1), bk := D.nx } σ2 H2)
    (hd : ∀ σ' H', Pv xs.length σ' H' → D.nx σ' H') : forK g tb D σ (Itl K a) H := for_list Pv h0 hl hs hd
end
section
variable {σ : L2.St} {H : Hp} {Q : VK} {ta te : TE} {K : PySem.W.Frag}
theorem k_bm {T : String} {r : V → List V → Hp → VK → Prop} {t : TA} (q : ta σ H fun x H1 => tyV K T x H1 ∧
  t σ H1 fun xs H2 => r x xs H2 Q) : tBM K T r ta t σ H Q := q
theorem k_bm0 {T : String} {r : V → List V → Hp → VK → Prop} (q : ta σ H fun x H1 => tyV K T x H1 ∧ r x [] H1 Q) : tBM0 K T r ta σ H Q := q
theorem k_tyl {l : Addr} {xs : List V} {P : Prop} (h : SqL K H l xs) (q : P) : tyV K "list" (.ref l) H ∧ P := ⟨Or.inl ⟨rfl, xs, h⟩, q⟩
theorem k_rApp {l : Addr} {xs : List V} {y : V} (h : H l = some (.lst xs)) (z : xs.length < sizeLine) (q : Q .non (upd H l (.lst (xs ++ [y])))) : rAppend (.ref l) [y] H Q := ⟨l, xs, y, rfl, rfl, h, z, q⟩
theorem k_sizeL {α : Type} {xs : List α} {f : α → V} (h : xs.length ≤ 100000) : (xs.map f).length < sizeLine := by
  rw [List.length_map]; exact Nat.lt_of_le_of_lt h (by decide)
end
section
variable {σ : L2.St} {H : Hp} {t u : TS} {D : Ends}
theorem k_cut (Mid : L2.St → Hp → Prop) (h : t { D with nx := Mid } σ H) (r : ∀ σ' H', Mid σ' H' → u D σ' H') : Evl.tCut t u D σ H := ⟨Mid, h, r⟩
end
theorem tr_step {H H' : Hp} {a : Addr} {o : HO} (e : Ex H H') (h : H a = some o) : H' a = some o := e a o h
section
variable {X : Cx} {CX : CXT} {k : Nat} {f C : Addr} {fd : FuncData} {ps : List Str} {sp : Sp} {E : XK}
/-- x op y, both instances of the class at C -/
def rMine (C : Addr) (sp : Sp) (E : XK) : R2 := fun x y H Q => ∃ a dx fs b dy gs,
  x = V.ref a ∧ y = V.ref b ∧ H a = some (HO.ins C dx fs) ∧ H b = some (HO.ins C dy gs) ∧ sp [x, y] H Q E
def rMine1 (C : Addr) (sp : Sp) (E : XK) : V → Hp → VK → Prop := fun x H Q => ∃ a dx fs,
  x = V.ref a ∧ H a = some (HO.ins C dx fs) ∧ sp [x] H Q E
theorem back_of {z : V} {u : Value} {s' : Shared} {R : Value → Shared → Prop} (r : RelV z u) (q : R u s') : PySem.W.CmpBack R u s' := by
  cases z with
  | non => cases r; exact q
  | bl b => cases r; exact q
  | int i => obtain ⟨t, rfl⟩ := r; exact q
  | str i => obtain ⟨t, rfl⟩ := r; exact q
  | byt i => obtain ⟨t, rfl⟩ := r; exact q
  | flt i => obtain ⟨t, rfl⟩ := r; exact q
  | ref a => cases r; exact q
  | ty n => cases r; exact q
theorem op_mine {op : Operator} (hc : PySem.W.selfFirst X.K C = true) (hm : Meth X.K C (PySem.dunder op.info.2) f) (F : FnOk X.prog X.w X.K X.mg X.base CX k f fd ps sp) (hr : Room k X.A) (hb : Binds X.K fd ps []) (hx : Passes CX X E) :
    OpR X (binaryOp op) (rMine C sp E) := by
  rintro pins s σ H x y v u Q I rx ry ⟨a, dx, fs, b, dy, gs, rfl, rfl, ha, hb', q⟩
  cases (show v = Value.ref a from rx)
  cases (show u = Value.ref b from ry)
  obtain ⟨mA, O, _⟩ := ins_get I.hok ha
  obtain ⟨mB, O', _⟩ := ins_get I.hok hb'
  obtain ⟨od, J, _⟩ := O.look
  obtain ⟨od', J', _⟩ := O'.look
  obtain ⟨m, hF⟩ := I.fr
  refine PySem.W.binop_K hF I.ok.mod.kin J J'.type hc hm.at_ hm.fn ?_
  refine wpAny_mono (run_fn (us := [.ref a, .ref b]) (vs := [.ref a, .ref b]) (dvs := []) (ds := []) F hr hb .nil hx I (.cons rfl (.cons rfl .nil)) q) ?_ (fun _ _ z => z)
  rintro u' s' ⟨z, H', I', rz, qz⟩
  exact back_of (R := EP X pins σ Q) rz ⟨z, H', I', rz, qz⟩
theorem un_mine (hm : Meth X.K C "__neg__" f) (F : FnOk X.prog X.w X.K X.mg X.base CX k f fd ps sp) (hr : Room k X.A) (hb : Binds X.K fd ps []) (hx : Passes CX X E) :
    UnR X (unaryOp .USub) (rMine1 C sp E) := by
  rintro pins s σ H x v Q I rx ⟨a, dx, fs, rfl, ha, q⟩
  cases (show v = Value.ref a from rx)
  obtain ⟨mA, O, _⟩ := ins_get I.hok ha
  obtain ⟨od, J, _⟩ := O.look
  obtain ⟨m, hF⟩ := I.fr
  refine PySem.W.ksp_neg hF I.ok.mod.kin J hm.at_ hm.fn ?_
  exact run_fn (us := [.ref a]) (vs := [.ref a]) (dvs := []) (ds := []) F hr hb .nil hx I (.cons rfl .nil) q
end
/-! small facts -/
theorem get_int {ns : List Int} {i : Nat} {y : V} (h : (ns.map V.int)[i]? = some y) : ∃ z, ns[i]? = some z ∧ y = .int z := by
  rw [List.getElem?_map] at h
  cases e : ns[i]? with
  | none => rw [e] at h; cases h
  | some z => rw [e] at h; exact ⟨z, rfl, (Option.some.inj h).symm⟩
theorem at_int {ns : List Int} {k : Int} (h0 : 0 ≤ k) (h1 : k < ns.length) : ∃ z, ns[k.toNat]? = some z ∧ atI (ns.map V.int) k = some (.int z) := by
  have hk : k.toNat < ns.length := by omega
  refine ⟨ns[k.toNat], by simp [hk], ?_⟩
  have e : ((k.toNat : Nat) : Int) = k := by omega
  have z : atI (ns.map V.int) ((k.toNat : Nat) : Int) = some (V.int ns[k.toNat]) := atI_nat (by simp [hk])
  rw [e] at z
  exact z
theorem ex_of {H H' : Hp} (e : H' = H) : Ex H H' := by rw [e]; exact Evl.Ex.refl H
theorem ex_upd {H : Hp} {p : Addr} {o : HO} (h : H p = none) : Ex H (upd H p o) := Evl.Ex.new h
theorem two_le : ∀ a b : V, [a, b].length ≤ sizeLine := fun _ _ => by show 2 ≤ sizeLine; decide
end Mine
namespace Mine
open PySem PySem.Spec PyProof.Rows L2
open PySem.W (Frag)
/-! the facts of the head: a list of tests of the written part, and the defs -/
def obsM (fs : List (Frag → Bool)) (fn : List He5.DefA) (K : Frag) : He.AlD :=
  ((fs.all fun f => f K) && fn.all fun d => d.ok K, fn.map fun d => He5.fnA K (d.at_ K))
def SaysM (fs : List (Frag → Bool)) (fn : List He5.DefA) (K : Frag) : Prop := obsM fs fn K = He5.valA fn
def obsMG (n : Nat) (fs : List (Frag → Bool)) (fn : List He5.DefA) (g : Addr → Option Obj) : He.AlD := obsM fs fn (He.frG g (He5.asA g n))
def hookM (n : Nat) (fs : List (Frag → Bool)) (fn : List He5.DefA) : PySem.W.Hook where
  α := He.AlD
  obs s := obsMG n fs fn s.heap.get?
  val _ := He5.valA fn
  says _ h := ∃ K : Frag, K.In h ∧ SaysM fs fn K
  of _ _ e := ⟨_, He.frG_in, e⟩
  keeps _ _ _ := fun ⟨K, hK, c⟩ k => ⟨K, PySem.W.Frag.In.keeps hK k, c⟩
theorem obsMG_eq {n : Nat} {fs : List (Frag → Bool)} {fn : List He5.DefA} {g : Addr → Option Obj} {s : Shared} (h : ∀ a, g a = s.heap.get? a) :
    obsMG n fs fn g = (hookM n fs fn).obs s := by
  have e : g = s.heap.get? := funext h
  subst e
  rfl
theorem SaysM.fact {fs : List (Frag → Bool)} {fn : List He5.DefA} {K : Frag} (c : SaysM fs fn K) (i : Nat) {f : Frag → Bool} (h : fs[i]? = some f) : f K = true := by
  have c1 : ((fs.all fun f => f K) && fn.all fun d => d.ok K) = true := congrArg (fun z : He.AlD => z.1) c
  exact List.all_eq_true.mp (Bool.and_eq_true_iff.mp c1).1 f (List.mem_of_getElem? h)
theorem SaysM.dfn {fs : List (Frag → Bool)} {fn : List He5.DefA} {K : Frag} (c : SaysM fs fn K) (i : Nat) {d : He5.DefA} (h : fn[i]? = some d) :
    ∃ fd, FunD K d.name d.qual d.params d.body d.scope (d.dvs K) (d.kws K) (d.at_ K) fd := by
  have c1 : ((fs.all fun f => f K) && fn.all fun d => d.ok K) = true := congrArg (fun z : He.AlD => z.1) c
  have c2 := List.all_eq_true.mp (Bool.and_eq_true_iff.mp c1).2 d (List.mem_of_getElem? h)
  have e : (fn.map fun d => He5.fnA K (d.at_ K)) = fn.map He5.DefA.val := congrArg (fun z : He.AlD => z.2) c
  have e2 := congrArg (fun l => l[i]?) e
  simp only [List.getElem?_map, h, Option.map_some, Option.some.injEq] at e2
  exact He5.DefA.funD e2 c2
end Mine
namespace Mine
open PySem PySem.Spec PyProof.Rows L2
theorem fd_same {K : PySem.W.Frag} {x q x' q' : Str} {a a' : Arguments} {b b' : List Stmt} {c c' : Scope} {d d' : List V} {k k' : List (Str × V)} {f : Addr} {fd fd' : FuncData} (F : FunD K x q a b c d k f fd) (G : FunD K x' q' a' b' c' d' k' f fd') : fd = fd' := by
  obtain ⟨_, _, _, _, _, _, _, _, _, _, _, l, _⟩ := F.ex
  obtain ⟨_, _, _, _, _, _, _, _, _, _, _, l', _⟩ := G.ex
  have e := Option.some.inj (l.symm.trans l')
  injection e with _ _ e
  injection e
end Mine
namespace Mine
open PySem PySem.Spec PyProof.Rows L2
def propG (K : PySem.W.Frag) (C f : Str) : Addr := match PySem.W.recIn K (He.ma K (He.ga K C) f) "property" with
  | some (.ref g :: _) => g
  | _ => 0
def propB (K : PySem.W.Frag) (C f : Str) : Bool :=
  He.eqO (PySem.W.findIn K (.ref (He.ga K C)) f) (some (some (.ref (He.ma K (He.ga K C) f)))) &&
  (He.eqO (PySem.W.specialIn K (.ref (He.ma K (He.ga K C) f)) "__get__") (some (some (.builtin "property.__get__"))) &&
  (decide (PySem.W.takesIn K (.ref (He.ma K (He.ga K C) f)) = some true) &&
  match PySem.W.recIn K (He.ma K (He.ga K C) f) "property" with
  | some (.ref _ :: _) => true
  | _ => false))
theorem prop_ok {K : PySem.W.Frag} {C f : Str} (h : propB K C f = true) : PropOf K (He.ga K C) f (He.ma K (He.ga K C) f) (propG K C f) := by
  unfold propB at h
  rw [Bool.and_eq_true, Bool.and_eq_true, Bool.and_eq_true] at h
  obtain ⟨h1, h2, h3, h4⟩ := h
  refine ⟨He.eqO_ok h1, He.eqO_ok h2, of_decide_eq_true h3, ?_⟩
  unfold propG
  split at h4
  · rename_i g rest e
    rw [e]; exact ⟨_, rfl⟩
  · cases h4
def inscB (K : PySem.W.Frag) (C : Str) : Bool :=
  (He.Fa.cls C).ok K && (He.eqO (PySem.W.findIn K (.ref (He.ga K C)) "__class__") (some (some (.builtin "object.__class__"))) &&
  (He.eqO (PySem.W.specialIn K (.builtin "object.__class__") "__get__") (some (some (.builtin "getset_descriptor.__get__"))) &&
  (decide (PySem.W.takesIn K (.builtin "object.__class__") = some true) && (decide (PySem.W.mroIn K (He.ga K C) (.type "object") = some true) &&
  decide (PySem.W.kitOne K (.ref (He.ga K C)) (.ref (He.ga K C)) = some true)))))
theorem insc_ok {K : PySem.W.Frag} {C : Str} (h : inscB K C = true) : C8.InsC K (He.ga K C) := by
  unfold inscB at h
  rw [Bool.and_eq_true, Bool.and_eq_true, Bool.and_eq_true, Bool.and_eq_true, Bool.and_eq_true] at h
  obtain ⟨h1, h2, h3, h4, h5, h6⟩ := h
  exact ⟨He.cls_ok h1, He.eqO_ok h2, He.eqO_ok h3, of_decide_eq_true h4, of_decide_eq_true h5, of_decide_eq_true h6⟩
end Mine
namespace Mine
open PySem L2
theorem cls_ty (T : String) : ClsV (.ty T) (.type T) := .ty T
theorem k_isiII {K : PySem.W.Frag} {H : Hp} {Q : VK} {i : Int} (q : Q (.bl true) H) : rIsi K [.int i, .ty "int"] H Q :=
  k_isi (cls_ty "int") (.base (.int i)) (kit_ty (b := "int") (r := true) (by decide +kernel)) q
theorem k_isiIB {K : PySem.W.Frag} {H : Hp} {Q : VK} {i : Int} (q : Q (.bl false) H) : rIsi K [.int i, .ty "bool"] H Q :=
  k_isi (cls_ty "bool") (.base (.int i)) (kit_ty (b := "bool") (r := false) (by decide +kernel)) q
theorem k_isiBB {K : PySem.W.Frag} {H : Hp} {Q : VK} {b : Bool} (q : Q (.bl true) H) : rIsi K [.bl b, .ty "bool"] H Q :=
  k_isi (cls_ty "bool") (.base (.bl b)) (kit_ty (b := "bool") (r := true) (by decide +kernel)) q
/-- the plain form of top / 2 ** power -/
def plainZ : Int → Nat → Int × Int
  | t, 0 => (t, 0)
  | t, n + 1 => if t % 2 = 0 then plainZ (t / 2) n else (t, ((n + 1 : Nat) : Int))
theorem plainZ_zero (t : Int) : plainZ t 0 = (t, 0) := rfl
theorem plainZ_even {t : Int} {n : Nat} (h : t % 2 = 0) : plainZ t (n + 1) = plainZ (t / 2) n := by
  show (if t % 2 = 0 then _ else _) = _
  rw [if_pos h]
theorem plainZ_odd {t : Int} {n : Nat} (h : ¬ t % 2 = 0) : plainZ t (n + 1) = (t, ((n + 1 : Nat) : Int)) := by
  show (if t % 2 = 0 then _ else _) = _
  rw [if_neg h]
theorem plainZ_le : ∀ (t : Int) (n : Nat), 0 ≤ (plainZ t n).2 ∧ (plainZ t n).2 ≤ n
  | t, 0 => by simp [plainZ]
  | t, n + 1 => by
    have ih := plainZ_le (t / 2) n
    by_cases h : t % 2 = 0
    · rw [plainZ_even h]; omega
    · rw [plainZ_odd h]; simp only; omega
/-- the plain form, in words: an even top stands with power 0 alone -/
theorem plainZ_plain : ∀ (t : Int) (n : Nat), (plainZ t n).2 = 0 ∨ ¬ (plainZ t n).1 % 2 = 0
  | t, 0 => Or.inl rfl
  | t, n + 1 => by
    by_cases h : t % 2 = 0
    · rw [plainZ_even h]; exact plainZ_plain _ _
    · rw [plainZ_odd h]; exact Or.inr h
/-- the value: t * 2 ^ p = top * 2 ^ n -/
theorem plainZ_val : ∀ (t : Int) (n : Nat), (plainZ t n).1 * 2 ^ n = t * 2 ^ (plainZ t n).2.toNat
  | t, 0 => by simp [plainZ]
  | t, n + 1 => by
    by_cases h : t % 2 = 0
    · rw [plainZ_even h]
      have ih := plainZ_val (t / 2) n
      have e : t = 2 * (t / 2) := by omega
      rw [Int.pow_succ, ← Int.mul_assoc, ih]
      generalize (plainZ (t / 2) n).2.toNat = k
      generalize t / 2 = u at e
      rw [e, Int.mul_comm (u * 2 ^ k) 2, Int.mul_assoc]
    · rw [plainZ_odd h]; rfl
/-- one plain form a number -/
theorem plain_one {t u : Int} {p q : Nat} (ht : p = 0 ∨ ¬ t % 2 = 0) (hu : q = 0 ∨ ¬ u % 2 = 0) (e : t * 2 ^ q = u * 2 ^ p) : t = u ∧ p = q := by
  have key : ∀ {t u : Int} {p q : Nat}, (q = 0 ∨ ¬ u % 2 = 0) → t * 2 ^ q = u * 2 ^ p → ¬ p < q := by
    intro t u p q hu e h
    have e1 : q = (q - p - 1) + 1 + p := by omega
    rw [e1, Int.pow_add, ← Int.mul_assoc] at e
    have e2 := Int.eq_of_mul_eq_mul_right (Int.ne_of_gt (Int.pow_pos (by decide))) e
    rw [Int.pow_succ, ← Int.mul_assoc] at e2
    omega
  have h1 := key hu e
  have h2 := key ht e.symm
  have h3 : p = q := by omega
  subst h3
  exact ⟨Int.eq_of_mul_eq_mul_right (Int.ne_of_gt (Int.pow_pos (by decide))) e, rfl⟩
/-- two numbers by any of their forms -/
theorem scale (a c : Int) (b d : Nat) : ∃ S : Int, 0 < S ∧ ∃ S' : Int, 0 < S' ∧ (plainZ a b).1 * 2 ^ (plainZ c d).2.toNat * S = a * 2 ^ d * S' ∧ (plainZ c d).1 * 2 ^ (plainZ a b).2.toNat * S = c * 2 ^ b * S' := by
  have v1 := plainZ_val a b
  have v2 := plainZ_val c d
  generalize plainZ a b = x at *
  generalize plainZ c d = y at *
  refine ⟨2 ^ b * 2 ^ d, Int.mul_pos (Int.pow_pos (by decide)) (Int.pow_pos (by decide)), 2 ^ x.2.toNat * 2 ^ y.2.toNat, Int.mul_pos (Int.pow_pos (by decide)) (Int.pow_pos (by decide)), ?_, ?_⟩
  · generalize (2 : Int) ^ y.2.toNat = Y at *
    generalize (2 : Int) ^ x.2.toNat = X at *
    generalize (2 : Int) ^ b = B at *
    generalize (2 : Int) ^ d = D at *
    have : x.1 * Y * (B * D) = (x.1 * B) * (Y * D) := by ac_rfl
    rw [this, v1]; ac_rfl
  · generalize (2 : Int) ^ y.2.toNat = Y at *
    generalize (2 : Int) ^ x.2.toNat = X at *
    generalize (2 : Int) ^ b = B at *
    generalize (2 : Int) ^ d = D at *
    have : y.1 * X * (B * D) = (y.1 * D) * (X * B) := by ac_rfl
    rw [this, v2]; ac_rfl
theorem lt_forms (a c : Int) (b d : Nat) : ((plainZ a b).1 * 2 ^ (plainZ c d).2.toNat < (plainZ c d).1 * 2 ^ (plainZ a b).2.toNat) ↔ (a * 2 ^ d < c * 2 ^ b) := by
  obtain ⟨S, hS, S', hS', e1, e2⟩ := scale a c b d
  constructor
  · intro h
    have h1 := Int.mul_lt_mul_of_pos_right h hS
    rw [e1, e2] at h1
    exact Int.lt_of_mul_lt_mul_right h1 (Int.le_of_lt hS')
  · intro h
    have h1 := Int.mul_lt_mul_of_pos_right h hS'
    rw [← e1, ← e2] at h1
    exact Int.lt_of_mul_lt_mul_right h1 (Int.le_of_lt hS)
theorem eq_forms (a c : Int) (b d : Nat) : ((plainZ a b).1 = (plainZ c d).1 ∧ (plainZ a b).2 = (plainZ c d).2) ↔ (a * 2 ^ d = c * 2 ^ b) := by
  obtain ⟨S, hS, S', hS', e1, e2⟩ := scale a c b d
  have w1 := plainZ_le a b
  have w2 := plainZ_le c d
  constructor
  · rintro ⟨h1, h2⟩
    have h3 : (plainZ a b).1 * 2 ^ (plainZ c d).2.toNat * S = (plainZ c d).1 * 2 ^ (plainZ a b).2.toNat * S := by rw [h1, h2]
    rw [e1, e2] at h3
    exact Int.eq_of_mul_eq_mul_right (Int.ne_of_gt hS') h3
  · intro h
    rw [h, ← e2] at e1
    have h1 := Int.eq_of_mul_eq_mul_right (Int.ne_of_gt hS) e1
    have p1 := plainZ_plain a b
    have p2 := plainZ_plain c d
    have r := plain_one (p := (plainZ a b).2.toNat) (q := (plainZ c d).2.toNat) (by omega) (by omega) h1
    exact ⟨r.1, by omega⟩
theorem bitAnd_one (x : Int) : Builtin.bitAnd x 1 = x % 2 := by
  exact PyProof.Rows.bitAnd_m1 x
end Mine
namespace Mine
open PySem PySem.Spec PyProof.Rows L2
open Evl (Ex)
/-- what of the class Dyadic's text is needed -/
structure FDyadic (K : PySem.W.Frag) : Prop where
  cl : Cls K (He.ga K "Dyadic")
  nt : NoAttr K (He.ga K "Dyadic") "_top"
  np : NoAttr K (He.ga K "Dyadic") "_power"
theorem ktp : ¬ (("_top" : Str) = "_power") := by decide +kernel
/-- its attributes -/
def dfs (t p : Int) : List (Str × V) := putF "_power" (.int p) (putF "_top" (.int t) [])
theorem dfs_top (t p : Int) : (dfs t p).lookup ("_top" : Str) = some (.int t) := by
  unfold dfs
  rw [lookup_putF, if_neg ktp, lookup_putF, if_pos rfl]
theorem dfs_power (t p : Int) : (dfs t p).lookup ("_power" : Str) = some (.int p) := by
  unfold dfs
  rw [lookup_putF, if_pos rfl]
theorem dfs_no (t p : Int) {m : Str} (h1 : ¬ m = "_power") (h2 : ¬ m = "_top") : (dfs t p).lookup m = none := by
  unfold dfs
  rw [lookup_putF, if_neg h1, lookup_putF, if_neg h2]
  all_goals rfl
theorem dfs_len (t p : Int) : (dfs t p).length < 1000 := by
  have h := length_putF "_power" (V.int p) (putF "_top" (V.int t) [])
  have h2 := length_putF "_top" (V.int t) []
  simp only [List.length_nil] at h2
  unfold dfs; omega
def okTop (a b : Int) : Prop := (-1000000000000 ≤ a ∧ a ≤ 1000000000000) ∧ 0 ≤ b ∧ b ≤ 40
/-- a Dyadic stands at a: its plain form's top and power -/
def DyAt (K : PySem.W.Frag) (H : Hp) (a : Addr) (t p : Int) : Prop := ∃ dx, H a = some (.ins (He.ga K "Dyadic") dx (dfs t p))
theorem DyAt.ex {K : PySem.W.Frag} {H H' : Hp} {a : Addr} {t p : Int} (h : DyAt K H a t p) (e : Ex H H') : DyAt K H' a t p :=
  let ⟨dx, q⟩ := h
  ⟨dx, e _ _ q⟩
theorem dy_inj {K : PySem.W.Frag} {H : Hp} {a : Addr} {t p t' p' : Int} (h : DyAt K H a t p) (h' : DyAt K H a t' p') : t = t' ∧ p = p' := by
  obtain ⟨dx, h⟩ := h
  obtain ⟨dx', h'⟩ := h'
  have e := Option.some.inj (h.symm.trans h')
  injection e with _ _ e
  have e1 := congrArg (fun l => List.lookup ("_top" : Str) l) e
  have e2 := congrArg (fun l => List.lookup ("_power" : Str) l) e
  simp only [dfs_top, dfs_power, Option.some.injEq, V.int.injEq] at e1 e2
  exact ⟨e1, e2⟩
theorem dy_tr {K : PySem.W.Frag} {H H' : Hp} {a : Addr} {t p : Int} (e : Ex H H') (h : DyAt K H a t p) : DyAt K H' a t p := h.ex e
theorem dy_prop {K : PySem.W.Frag} {H : Hp} {a : Addr} {t p : Int} {P : Addr → Prop} (h : DyAt K H a t p) (q : P a) :
    ∃ b dx fs, V.ref a = V.ref b ∧ H b = some (HO.ins (He.ga K "Dyadic") dx fs) ∧ P b :=
  let ⟨dx, e⟩ := h
  ⟨a, dx, _, rfl, e, q⟩
theorem dy_isC {K : PySem.W.Frag} {H : Hp} {Q : VK} {a : Addr} {t p : Int} (h : DyAt K H a t p) (q : Q (.bl true) H) : rIsC (He.ga K "Dyadic") [.ref a, .ref (He.ga K "Dyadic")] H Q :=
  let ⟨dx, e⟩ := h
  ⟨a, dx, _, rfl, e, q⟩
/-- x.m(..): what a method call asks of a Dyadic -/
theorem dy_meth {K : PySem.W.Frag} {H : Hp} {a : Addr} {t p : Int} {m : Str} {P : Prop} (h : DyAt K H a t p) (h1 : ¬ m = "_power") (h2 : ¬ m = "_top") (q : P) :
    ∃ b dx fs, V.ref a = V.ref b ∧ H b = some (HO.ins (He.ga K "Dyadic") dx fs) ∧ fs.lookup m = none ∧ P :=
  let ⟨dx, e⟩ := h
  ⟨a, dx, _, rfl, e, dfs_no _ _ h1 h2, q⟩
end Mine
namespace Mine
open PySem PySem.Spec PyProof.Rows L2
/-! dicts whose keys are pairs of tuples of ints and whose values are ints -/
abbrev Pr := List Int × List Int
def keyOf (p : Pr) : NestedKey := .tup [.tup (p.1.map .num), .tup (p.2.map .num)]
theorem nums_inj : ∀ {a b : List Int}, a.map NestedKey.num = b.map NestedKey.num → a = b
  | [], [], _ => rfl
  | [], _ :: _, e => by simp at e
  | _ :: _, [], e => by simp at e
  | x :: xs, y :: ys, e => by
    rw [List.map_cons, List.map_cons] at e
    injection e with e1 e2
    injection e1 with e1
    rw [e1, nums_inj e2]
theorem keyOf_inj {p q : Pr} (h : keyOf p = keyOf q) : p = q := by
  unfold keyOf at h
  injection h with h
  injection h with h1 h2
  injection h2 with h2 _
  injection h1 with h1
  injection h2 with h2
  exact Prod.ext (nums_inj h1) (nums_inj h2)
theorem nums_flat : ∀ l : List Int, NestedKey.depthAll (l.map .num) = 0
  | [] => rfl
  | x :: l => by
    rw [List.map_cons, NestedKey.depthAll, nums_flat l]
    rfl
theorem keyOf_deep (p : Pr) : (keyOf p).depth ≤ 8 := by
  unfold keyOf
  simp only [NestedKey.depth, NestedKey.depthAll, nums_flat]
  decide
/-- the tuple at b is the pair p of tuples of ints -/
def PrT (H : Hp) (b : Addr) (p : Pr) : Prop := ∃ c d, H b = some (.tup [.ref c, .ref d]) ∧ H c = some (.tup (p.1.map V.int)) ∧ H d = some (.tup (p.2.map V.int))
theorem PrT.ex {H H' : Hp} {b : Addr} {p : Pr} (t : PrT H b p) (k : ∀ c xs, H c = some (.tup xs) → H' c = some (.tup xs)) : PrT H' b p :=
  let ⟨c, d, h1, h2, h3⟩ := t
  ⟨c, d, k _ _ h1, k _ _ h2, k _ _ h3⟩
theorem nested_ints {h : Heap} : ∀ {ns : List Int} {us : List Value}, Vals (ns.map V.int) us → NestedAll h (ns.map .num) us
  | [], _, r => by rw [List.map_nil] at r; cases r; exact .nil
  | n :: ns, _, r => by
    rw [List.map_cons] at r
    cases r with
    | cons h t =>
      obtain ⟨tk, rfl⟩ := h
      exact .cons (.int n tk) (nested_ints t)
section
variable {P : Program} {w : World} {H : Hp} {h : Heap} {a b : Addr} {p : Pr}
theorem nested_tup {ns : List Int} (ok : HOk P w H h) (e : H a = some (.tup (ns.map V.int))) : NestedIs h (.tup (ns.map .num)) (.ref a) := by
  obtain ⟨_, its, r, o, h1, h2, n, h3⟩ := (show ObjOk P w H h a (.tup (ns.map V.int)) from ok a _ e)
  exact .tup h1 h2 h3 (by simpa using nested_ints r)
theorem PrT.key (t : PrT H b p) (ok : HOk P w H h) : (nestedKind P w).is h (keyOf p) b := by
  obtain ⟨c, d, e, ec, ed⟩ := t
  refine ⟨?_, keyOf_deep p⟩
  obtain ⟨_, its, r, o, h1, h2, n, h3⟩ := (show ObjOk P w H h b (.tup [.ref c, .ref d]) from ok b _ e)
  cases r with
  | cons r1 t1 =>
    cases t1 with
    | cons r2 t2 =>
      cases t2
      cases r1
      cases r2
      exact .tup h1 h2 h3 (.cons (nested_tup ok ec) (.cons (nested_tup ok ed) .nil))
end
abbrev Ent := Pr × Addr × Int
abbrev NP : List Ent → List (NestedKey × Addr × Value) → Prop := Paired fun p q => q.1 = keyOf p.1 ∧ q.2.1 = p.2.1 ∧ ∃ t, q.2.2 = Value.int p.2.2 t
def look (kvs : List Ent) (p : Pr) : Option Int := (kvs.find? fun e => decide (e.1 = p)).map (·.2.2)
theorem NP.look {kvs : List Ent} {xs : List (NestedKey × Addr × Value)} (r : NP kvs xs) (p : Pr) : RelO ((look kvs p).map V.int) ((atKey xs (keyOf p)).map (·.2)) := by
  induction r with
  | nil => exact True.intro
  | @cons e q es qs h t ih =>
    obtain ⟨h1, h2, tk, h3⟩ := h
    by_cases z : e.1 = p
    · have b : atKey (q :: qs) (keyOf p) = some q.2 := by simp [atKey, List.find?_cons, h1, z]
      have c : Mine.look (e :: es) p = some e.2.2 := by simp [Mine.look, List.find?_cons, z]
      rw [b, c]
      exact ⟨tk, h3⟩
    · have z' : ¬ q.1 = keyOf p := fun y => z (keyOf_inj (h1.symm.trans y))
      have b : atKey (q :: qs) (keyOf p) = atKey qs (keyOf p) := by simp [atKey, List.find?_cons, z']
      have c : Mine.look (e :: es) p = Mine.look es p := by simp [Mine.look, List.find?_cons, z]
      rw [b, c]
      exact ih
theorem NP.none_of {kvs : List Ent} {xs : List (NestedKey × Addr × Value)} (r : NP kvs xs) {p : Pr} (h : Mine.look kvs p = none) : atKey xs (keyOf p) = none := by
  have z := NP.look r p
  rw [h] at z
  cases q : atKey xs (keyOf p) with
  | none => rfl
  | some y => rw [q] at z; exact z.elim
theorem NP.len {kvs : List Ent} {xs : List (NestedKey × Addr × Value)} (r : NP kvs xs) : kvs.length = xs.length := Paired.length r
/-- what stands at a -/
def NdR (P : Program) (w : World) (h : Heap) (a : Addr) (kvs : List Ent) : Prop := kvs.length ≤ sizeLine ∧ (a == sysModules) = false ∧ ∃ xs : List (NestedKey × Addr × Value), NP kvs xs ∧
  ∃ o es ep, h.get? a = some o ∧ o.ExactDict ∧ o.data = .dict es ep ∧ es.toList = xs.map (entryOfKey (nestedKind P w)) ∧ (xs.map (·.1)).Nodup
def NdO (P : Program) (w : World) (a : Addr) (kvs : List Ent) : HO := .ext fun h => NdR P w h a kvs
def Keys (H : Hp) (kvs : List Ent) : Prop := ∀ e ∈ kvs, PrT H e.2.1 e.1
theorem NP.keys {P : Program} {w : World} {H : Hp} {h : Heap} (ok : HOk P w H h) {kvs : List Ent} {xs : List (NestedKey × Addr × Value)} (r : NP kvs xs) : (∀ e ∈ kvs, PrT H e.2.1 e.1) → ∀ x ∈ xs, (nestedKind P w).is h x.1 x.2.1 := by
  induction r with
  | nil => intro _ x hx; exact nomatch hx
  | @cons e q es qs hq t ih =>
    intro k x hx
    rcases List.mem_cons.mp hx with z | hx
    · subst z
      obtain ⟨h1, h2, _⟩ := hq
      rw [h1, h2]
      exact (k e List.mem_cons_self).key ok
    · exact ih (fun e' m => k e' (List.mem_cons_of_mem _ m)) x hx
theorem nd_at {P : Program} {w : World} {H : Hp} {h : Heap} {a : Addr} {kvs : List Ent} (ok : HOk P w H h) (e : H a = some (NdO P w a kvs)) (k : Keys H kvs) :
    kvs.length ≤ sizeLine ∧ (a == sysModules) = false ∧ ∃ xs, NP kvs xs ∧ h.DictOfH (nestedKind P w) a xs := by
  obtain ⟨z, y, xs, r, o, es, ep, h1, h2, h3, h4, h5⟩ := (ok a _ e).1
  exact ⟨z, y, xs, r, o, es, ep, h1, h2, h3, h4, NP.keys ok r k, h5⟩
theorem nd_new {P : Program} {w : World} {H : Hp} {h : Heap} {a : Addr} {kvs : List Ent} (R : NdR P w h a kvs) : ObjOk P w H h a (NdO P w a kvs) := by
  have ⟨_, _, _, _, o, _, _, ho, _⟩ := R
  refine ⟨R, ⟨o, ho⟩, fun h1 h2 p k => ?_⟩
  obtain ⟨z, y, xs, r, o, es, ep, g1, g⟩ := p
  exact ⟨z, y, xs, r, o, es, ep, k _ g1, g⟩
section
variable {X : Cx} {pins : List (Addr × Obj)} {σ : L2.St} {H : Hp} {s : Shared} {a b : Addr} {kvs : List Ent} {p : Pr} {A : Around} {E : Value → Shared → Prop}
theorem n_get {v : Int} {Q : Value → Shared → Prop} (hu : A.units + 9 < cLine) (I : Inv X pins σ H s) (e : H a = some (NdO X.prog X.w a kvs)) (k : Keys H kvs) (kb : PrT H b p) (l : look kvs p = some v)
    (h : ∀ w' s', Inv X pins σ H s' → RelV (.int v) w' → Q w' s') : wpAny (model X.prog X.w) A (getItem (.ref a) (.ref b)) Q E s := by
  obtain ⟨z, hd, xs, r, dd⟩ := nd_at I.hok e k
  have rl := NP.look r p
  rw [l] at rl
  cases q : atKey xs (keyOf p) with
  | none => rw [q] at rl; exact rl.elim
  | some y =>
    rw [q] at rl
    exact wpAny_getItem_heap (knd := nestedKind X.prog X.w) (show A.in1.units + 8 < cLine by rw [Around.in1_units]; omega) (kb.key I.hok) dd q (h y.2 _ (I.tok _) rl)
theorem n_notin {Q : Value → Shared → Prop} (hu : A.units + 9 < cLine) (I : Inv X pins σ H s) (e : H a = some (NdO X.prog X.w a kvs)) (k : Keys H kvs) (kb : PrT H b p)
    (h : ∀ s', Inv X pins σ H s' → Q (.bool (!(look kvs p).isSome)) s') : wpAny (model X.prog X.w) A (compareOp .NotIn (.ref b) (.ref a)) Q E s := by
  obtain ⟨z, hd, xs, r, dd⟩ := nd_at I.hok e k
  refine wpAny_notIn_heap (knd := nestedKind X.prog X.w) (show A.in1.units + 8 < cLine by rw [Around.in1_units]; omega) (kb.key I.hok) hd dd ?_
  have rl := NP.look r p
  have e2 : (atKey xs (keyOf p)).isSome = (look kvs p).isSome := by
    cases q : atKey xs (keyOf p) with
    | none =>
      cases q2 : look kvs p with
      | none => rfl
      | some v => rw [q, q2] at rl; exact rl.elim
    | some y =>
      cases q2 : look kvs p with
      | none => rw [q, q2] at rl; exact rl.elim
      | some v => rfl
  rw [e2]
  exact h _ (I.tok _)
theorem n_put {v : Int} {u : Value} {Q : Unit → Shared → Prop} (hu : A.units + 9 < cLine) (I : Inv X pins σ H s) (e : H a = some (NdO X.prog X.w a kvs)) (k : Keys H kvs) (kb : PrT H b p) (l : look kvs p = none) (hl : kvs.length < sizeLine) (ru : RelV (.int v) u)
    (h : ∀ s', Inv X pins σ (upd H a (NdO X.prog X.w a (kvs ++ [(p, b, v)]))) s' → Q () s') : wpAny (model X.prog X.w) A (setItem (.ref a) (.ref b) u) Q E s := by
  obtain ⟨z, hd, xs, r, dd⟩ := nd_at I.hok e k
  have hz : xs.length ≤ sizeLine := by rw [← NP.len r]; exact z
  have hn := NP.none_of r l
  refine wpAny_setItem_heap (hsz := hz) (knd := nestedKind X.prog X.w) (show A.in1.units + 8 < cLine by rw [Around.in1_units]; omega) (kb.key I.hok) dd fun h' dd' hs => h _ ?_
  rw [storedH_new hn] at dd'
  obtain ⟨q, es, ep, hq, h2, h3, h4, _, h5⟩ := dd'
  refine I.write (x := a) (e := a) (by rw [e]; exact True.intro) (.inl rfl) (fun c u hc y => (hs.2 c hc).trans y) ⟨q, hq⟩ (nd_new ⟨?_, hd, _, Paired.snoc r ⟨rfl, rfl, (show ∃ tk, u = Value.int v tk from ru)⟩, q, es, ep, hq, h2, h3, h4, h5⟩)
  rw [List.length_append, List.length_singleton]
  omega
end
/-! readings and rules -/
/-- d[k] -/
def tNGet (P : Program) (w : World) (td ty : TE) : TE := fun σ H Q => td σ H fun x H1 => ty σ H1 fun y H2 => ∃ a b kvs p v, x = V.ref a ∧ y = V.ref b ∧ H2 a = some (NdO P w a kvs) ∧ Keys H2 kvs ∧ PrT H2 b p ∧ look kvs p = some v ∧ Q (.int v) H2
/-- k not in d -/
def tNNot (P : Program) (w : World) (ty td : TE) : TE := fun σ H Q => ty σ H fun y H1 => td σ H1 fun x H2 => ∃ a b kvs p, x = V.ref a ∧ y = V.ref b ∧ H2 a = some (NdO P w a kvs) ∧ Keys H2 kvs ∧ PrT H2 b p ∧ Q (.bl (!(look kvs p).isSome)) H2
/-- d[k] = v, a new key -/
def sNPut (P : Program) (w : World) (td ty tv : TE) : TS := fun D σ H => tv σ H fun z H1 => td σ H1 fun x H2 => ty σ H2 fun y H3 => ∃ a b kvs p v, z = V.int v ∧ x = V.ref a ∧ y = V.ref b ∧ H3 a = some (NdO P w a kvs) ∧ Keys H3 kvs ∧ PrT H3 b p ∧ look kvs p = none ∧
  kvs.length < sizeLine ∧ D.nx σ (upd H3 a (NdO P w a (kvs ++ [(p, b, v)])))
/-- {k: v} -/
def tNDisp (P : Program) (w : World) (tk tv : TE) : TE := fun σ H Q => ∀ d, H d = none → tk σ (upd H d (NdO P w d [])) fun y H1 => tv σ H1 fun z H2 => ∃ b p v, y = V.ref b ∧ z = V.int v ∧ H2 d = some (NdO P w d []) ∧ PrT H2 b p ∧
  Q (.ref d) (upd H2 d (NdO P w d [(p, b, v)]))
section
variable {X : Cx} {o i e value : Expr} {pos pos' : Pos} {td ty tv tk : TE}
theorem nd_type {P : Program} {w : World} {s : Shared} {H : Hp} {a : Addr} {kvs : List Ent} (ok : HOk P w H s.heap) (e : H a = some (NdO P w a kvs)) : s.TypeIs (.ref a) "dict" := by
  obtain ⟨_, _, _, _, o, es, ep, h1, h2, _⟩ := (ok a _ e).1
  exact ⟨o, h1, h2.1⟩
theorem pe_nget (hu : X.A.units + 9 < cLine) (ho : PE X o td) (hi : PE X i ty) (hs : NoSl i) : PE X (.Subscript o i pos) (tNGet X.prog X.w td ty) := by
  refine ⟨fun pins s σ H Q I h => ?_⟩
  refine subD_of PySem.F.slot_dict_getitem.lookup hs (thn (ho.run pins s σ H _ I h) fun u s1 z1 => ?_)
  obtain ⟨x, H1, I1, rx, q1⟩ := z1
  refine thn (hi.run pins s1 σ H1 _ I1 q1) fun iv s2 z2 => ?_
  obtain ⟨y, H2, I2, ry, a, b, kvs, p, v, ex, ey, g, kk, kb, l, q2⟩ := z2
  subst ex ey
  obtain rfl : u = Value.ref a := rx
  obtain rfl : iv = Value.ref b := ry
  exact ⟨nd_type I2.hok g, n_get hu I2 g kk kb l fun w' s3 I3 rw' => ⟨.int v, H2, I3, rw', q2⟩⟩
theorem pc_nnot (hu : X.A.units + 9 < cLine) (hi : PE X i ty) (ho : PE X o td) : PC X .NotIn i o (tNNot X.prog X.w ty td) := by
  refine ⟨fun pins s σ H Q I h => ?_⟩
  refine thn (hi.run pins s σ H _ I h) fun iv s1 z1 => ?_
  obtain ⟨y, H1, I1, ry, q1⟩ := z1
  refine thn (ho.run pins s1 σ H1 _ I1 q1) fun u s2 z2 => ?_
  obtain ⟨x, H2, I2, rx, a, b, kvs, p, ex, ey, g, kk, kb, q2⟩ := z2
  subst ex ey
  obtain rfl : u = Value.ref a := rx
  obtain rfl : iv = Value.ref b := ry
  exact n_notin hu I2 g kk kb fun s3 I3 => ⟨.bl (!(look kvs p).isSome), H2, I3, rfl, q2⟩
theorem ps_nput (hu : X.A.units + 9 < cLine) (ho : PE X o td) (hi : PE X i ty) (hv : PE X value tv) (hs : swapsWith value (some (.Subscript o i pos')) pos.line X.env = pure false) :
    PS X (.Assign [.Subscript o i pos'] value pos) (sNPut X.prog X.w td ty tv) := by
  refine ⟨fun pins s σ H D I h => ?_⟩
  refine wpAny_Assign_Subscript (thn (hv.run pins s σ H _ I h) fun r s1 z1 => ?_) hs
  obtain ⟨z, H1, I1, rv, q1⟩ := z1
  refine thn (ho.run pins s1 σ H1 _ I1 q1) fun u s2 z2 => ?_
  obtain ⟨x, H2, I2, rx, q2⟩ := z2
  refine thn (hi.run pins s2 σ H2 _ I2 q2) fun iv s3 z3 => ?_
  obtain ⟨y, H3, I3, ry, a, b, kvs, p, v, ez, ex, ey, g, kk, kb, l, hl, q3⟩ := z3
  subst ex ey ez
  obtain rfl : u = Value.ref a := rx
  obtain rfl : iv = Value.ref b := ry
  exact n_put hu I3 g kk kb l hl rv fun s4 I4 => ⟨σ, _, I4, q3⟩
theorem pe_ndisp {k v : Expr} (hu : X.A.units + 9 < cLine) (hk : PE X k tk) (hv : PE X v tv) : PE X (.Dict [some k] [v] pos) (tNDisp X.prog X.w tk tv) := by
  refine ⟨fun pins s σ H Q I h => ?_⟩
  have hn := I.hok.fresh (Nat.le_refl s.heap.objs.size)
  have hb := I.big
  have R0 : NdR X.prog X.w (s.heap.push { cls := .type "dict", data := .dict #[] }) s.heap.objs.size [] :=
    ⟨Nat.zero_le _, beq_eq_false_iff_ne.mpr (Ne.symm (Nat.ne_of_lt hb)), [], .nil, _, #[], 0, Heap.get?_push_size _ rfl, ⟨rfl, rfl, rfl⟩, rfl, rfl, List.nodup_nil⟩
  have I1 := I.laid (a := s.heap.objs.size) (o := NdO X.prog X.w s.heap.objs.size []) (h' := s.heap.push { cls := .type "dict", data := .dict #[] }) (t' := s.toks) (fun _ _ q => Heap.get?_push_of_some _ q) (Nat.le_refl _) (nd_new R0)
  refine wpAny_Dict_any rfl rfl (by simp) (show 1 ≤ 15 by decide) ?_
  refine pairTrees_cons_walk (thn (hk.run pins _ σ _ _ I1 (h _ hn)) fun u s1 z1 => ?_)
  obtain ⟨y, H1, I2, ry, q1⟩ := z1
  refine thn (hv.run pins s1 σ H1 _ I2 q1) fun u2 s2 z2 => ?_
  obtain ⟨z, H2, I3, rz, b, p, n, ey, ez, g, kb, q2⟩ := z2
  subst ey ez
  obtain rfl : u = Value.ref b := ry
  refine pairTrees_nil_walk ?_
  unfold storeAll
  rw [List.forIn_cons]
  obtain ⟨zz, hd, xs, r, dd⟩ := nd_at I3.hok g (fun e m => nomatch m)
  cases r
  refine wpAny_bind (wpAny_bind (wpAny_dictSet_heap (hsz := Nat.zero_le _) (knd := nestedKind X.prog X.w) (show X.A.units + 8 < cLine by omega) (kb.key I3.hok) dd fun h' dd' hs => ?_))
  refine wpAny_pure ?_
  dsimp only
  rw [List.forIn_nil]
  refine wpAny_pure ⟨.ref s.heap.objs.size, _, ?_, rfl, q2⟩
  rw [storedH_new rfl] at dd'
  obtain ⟨q, es, ep, hq, h2, h3, h4, _, h5⟩ := dd'
  exact I3.write (x := s.heap.objs.size) (e := s.heap.objs.size) (by rw [g]; exact True.intro) (.inl rfl) (fun c u hc y => (hs.2 c hc).trans y) ⟨q, hq⟩ (nd_new ⟨(show 1 ≤ sizeLine by decide), hd, _, .cons ⟨rfl, rfl, (show ∃ tk, u2 = Value.int n tk from rz)⟩ .nil, q, es, ep, hq, h2, h3, h4, h5⟩)
end
end Mine
namespace Mine
open PySem PySem.Spec PyProof.Rows L2
open Sem (wp)
/-! set(xs) of a list of isI -/
abbrev emO (w : World) : Obj := { cls := .type "set", dict := none, data := .set #[] 0 (.fresh 0 0 (!w.params.followText "set-order")) }
section
variable {P : Program} {w : World} {A : Around} {E : Value → Shared → Prop} {s : Shared}
/-- the new set S holds the isI of ns, all else is kept -/
structure Filled (w : World) (h h' : Heap) (S : Addr) (ns : List Int) (c : Nat) : Prop where
  set : SetR w h' S (fun j => decide (j ∈ ns)) c
  few : c ≤ ns.length
  old : ∀ b o, h.get? b = some o → h'.get? b = some o
set_option maxHeartbeats 3200000 in
theorem set_of_ints {l : Addr} {xs : Array Value} (ns : List Int) {Q : Value → Shared → Prop} (calm : A.handled = none) (at_l : s.heap.IsList l xs) (isI : IntsAre xs.toList ns) (room : ns.length + 1 < scanBound)
    (q : ∀ (g : Heap) (tk c : Nat), Filled w s.heap g s.heap.objs.size ns c → Q (.ref s.heap.objs.size) { s with heap := g, toks := tk }) : wpAny (model P w) A (call (.type "set") [.ref l]) Q E s := by
  have many : xs.size = ns.length := by rw [← IntsAre.length isI, Array.length_toList]
  let h1 : Heap := s.heap.push (emO w)
  have hd : h1 = s.heap.push (emO w) := rfl
  have zS : h1.get? s.heap.objs.size = some (emO w) := Heap.get?_push_size _ rfl
  have sz1 : h1.objs.size = s.heap.objs.size + 1 := Heap.size_push ..
  have lt_l : l < s.heap.objs.size := let ⟨o, ho, _⟩ := at_l; Heap.lt_size ho
  have ty1 : Shared.TypeIs { s with heap := h1 } (.ref s.heap.objs.size) "set" := ⟨_, zS, rfl⟩
  have ls1 : h1.IsList l xs := at_l.push _
  clear_value h1
  obtain ⟨c0, t0, m0⟩ := F.called_set.mro
  have m1 := F.called_set.made; have m2 := F.called_set.sub; have m3 := F.called_set.notType; have m4 := F.called_set.canCreate
  have m5 := F.typeCall_set_1 (.ref l); have m6 := F.called_set.init.lookup; have m7 := F.called_set.init.bind (.ref s.heap.objs.size)
  refine wpAny_call (codeAny_of_tree (show wpAny _ _ (callAny (.type "set") _) _ _ _ from ?_))
  refine wpAny_pure ⟨Code.quiet_builtin _ (by decide +kernel), codeAny_builtin F.entry_type_call ?_⟩
  rw [Around.under_plain (weight_type_call_type "set" [.ref l] []) rfl]
  repeat (any_goals (first | assumption | wp_step))
  refine codeAny_mono (code_set_led1 (.ref l) (E := E) (Q₁ := fun v s' => v = .ref s.heap.objs.size ∧ s' = { s with heap := h1 }) ⟨rfl, by rw [hd]⟩) fun r s' hr => ?_
  rcases r with e | fl
  · exact hr
  cases fl with
  | ret v =>
    obtain ⟨rfl, rfl⟩ := hr
    repeat (any_goals (first | assumption | wp_step))
    refine codeAny_mono (codeAny_call_builtin (R := wants (fun v s' => v = .none ∧ ∃ g tk c, s' = { s with heap := g, toks := tk } ∧ Filled w s.heap g s.heap.objs.size ns c) E) F.called_set.init.plain F.entry_set_init (check_set_init_1 ty1 ?_)) fun r s' hr => ?_
    · obtain ⟨⟨oc, od, oa, os⟩, got, e1, n1, e2⟩ := at_l
      simp only at e1 e2
      subst e1; subst e2
      have got1 : h1.get? l = some { cls := .type "list", dict := od, data := .seq xs n1, slots := os } := by rw [hd]; exact Heap.get?_push_of_some _ got
      have k1 := F.sub_list_set; have k2 := F.sub_list_frozenset
      have k3 : (Value.type "list" == Value.type "dict") = false := by decide
      unfold Builtin.«set.__init__» noKeywords Builtin.Frozenset.updateFrom
      generalize hit : pyIter = IT
      wp_walk
      subst hit
      refine wpAny_pyIter_list ls1 (wpAny_bind (wpAny_runValue ?_))
      have calm3 : A.in1.in1.in1.handled = none := by simp [calm]
      have apart : l ≠ h1.objs.size := by rw [sz1]; exact Nat.ne_of_lt (Nat.lt_succ_of_lt lt_l)
      have notin : s.heap.objs.size ∉ [h1.objs.size, l] := by
        rw [sz1]
        intro m
        rcases List.mem_cons.mp m with e | m
        · exact absurd e (Nat.ne_of_lt (Nat.lt_succ_self _))
        · rw [List.mem_singleton] at m
          exact absurd lt_l (by rw [← m]; exact Nat.lt_irrefl _)
      refine set_update_ints ((Walks.list calm3 _ l apart xs).toS) s.heap.objs.size notin ns many room (fun i v hv => ?_) xs.size 0 _ (by omega) (Nat.zero_le _) ⟨⟨_, Heap.get?_push_size _ rfl, rfl, rfl⟩, ls1.push _⟩ ⟨0, Nat.le_refl 0, setR_new_at (Heap.get?_push_of_some _ zS)⟩ fun s' c moved le R => ?_
      · have hi : i < ns.length := by rw [← many]; exact (Array.getElem?_eq_some_iff.mp hv).1
        obtain ⟨t, e⟩ := PyProof.Rows.IntsAre.int_at isI i v (by rw [Array.getElem?_toList]; exact hv)
        exact ⟨ns[i], t, List.getElem?_eq_getElem hi, by rw [e, List.getD_eq_getElem?_getD, List.getElem?_eq_getElem hi]; rfl⟩
      · obtain ⟨g, g2, d2, tk, o2⟩ := s'
        obtain rfl : g2 = s.gens := moved.gens
        obtain rfl : d2 = s.drawn := moved.drawn
        obtain rfl : o2 = s.os := moved.os
        refine (show wpAny _ _ _ _ _ _ from wpAny_pure (show wpAny _ _ (ret Value.none) _ _ _ from wpAny_pure ⟨rfl, g, tk, c, rfl, R, by rw [← many]; exact le, fun b o e => ?_⟩))
        have lt := Heap.lt_size e
        refine moved.heap b o (fun m => ?_) (Heap.get?_push_of_some _ (by rw [hd]; exact Heap.get?_push_of_some _ e))
        rcases List.mem_cons.mp m with z | m
        · exact absurd lt (by rw [z]; exact Nat.lt_irrefl _)
        · rw [List.mem_singleton, sz1] at m
          exact absurd lt (by rw [m]; exact Nat.not_lt_of_le (Nat.le_succ _))
    · rcases r with e | fl
      · exact hr
      cases fl with
      | ret v =>
        obtain ⟨rfl, g, tk, c, rfl, R⟩ := hr
        repeat (any_goals (first | assumption | wp_step))
        exact q g tk c R
      | _ => exact hr.elim
  | _ => exact hr.elim
end
section
variable {X : Cx}
/-- set(xs), xs a list of ints -/
def rSetL (K : PySem.W.Frag) (w : World) : List V → Hp → VK → Prop := fun vs H Q => ∃ (l : Addr) (ns : List Int), vs = [V.ref l] ∧ SqL K H l (ns.map V.int) ∧ ns.length + 1 < scanBound ∧
  ∀ (p : Addr) (c : Nat), H p = none → c ≤ ns.length → Q (.ref p) (upd H p (SetO w p (fun j => decide (j ∈ ns)) c))
theorem cr_setL (hc : X.calm = true) : CallR X (.type "set") (rSetL X.K X.w) := by
  intro pins s σ H vs us Q I r h
  obtain ⟨l, ns, rfl, hl, hb, q⟩ := h
  rw [Vals.ref1 r]
  obtain ⟨its, rv, ⟨ob, n, ho, h1, _, h2⟩, hlen⟩ := I.list hl
  refine set_of_ints ns (I.ok.hd hc) ⟨ob, ho, h1, n, h2⟩ (ints_of_vals (by simpa using rv)) hb fun g tk c f => ?_
  have hn := I.hok.fresh (Nat.le_refl s.heap.objs.size)
  exact ⟨.ref s.heap.objs.size, _, I.laid (a := s.heap.objs.size) (o := SetO X.w s.heap.objs.size (fun j => decide (j ∈ ns)) c) (t' := tk) f.old (Nat.le_refl _) (setO_new f.set), rfl, q _ c hn f.few⟩
end
end Mine
namespace Mine
open PySem PySem.Spec PyProof.Rows L2
open Evl (Ex)
/-! yards: what stands in the heap -/
structure FYard (K : PySem.W.Frag) : Prop where
  cl : Cls K (He.ga K "Yard")
  nl : NoAttr K (He.ga K "Yard") "_lefts"
  nr : NoAttr K (He.ga K "Yard") "_rights"
  nh : NoAttr K (He.ga K "Yard") "_heights"
  nn : NoAttr K (He.ga K "Yard") "_numbers"
  nt : NoAttr K (He.ga K "Yard") "_turned"
structure Foot where
  y : Addr
  dx : Addr
  l : Addr
  r : Addr
  h : Addr
  n : Addr
  t : Addr
theorem klr : ¬ (("_lefts" : Str) = "_rights") := by decide +kernel
theorem klh : ¬ (("_lefts" : Str) = "_heights") := by decide +kernel
theorem kln : ¬ (("_lefts" : Str) = "_numbers") := by decide +kernel
theorem klt : ¬ (("_lefts" : Str) = "_turned") := by decide +kernel
theorem krh : ¬ (("_rights" : Str) = "_heights") := by decide +kernel
theorem krn : ¬ (("_rights" : Str) = "_numbers") := by decide +kernel
theorem krt : ¬ (("_rights" : Str) = "_turned") := by decide +kernel
theorem khn : ¬ (("_heights" : Str) = "_numbers") := by decide +kernel
theorem kht : ¬ (("_heights" : Str) = "_turned") := by decide +kernel
theorem knt : ¬ (("_numbers" : Str) = "_turned") := by decide +kernel
def yfs (F : Foot) : List (Str × V) := putF "_turned" (.ref F.t) (putF "_numbers" (.ref F.n) (putF "_heights" (.ref F.h) (putF "_rights" (.ref F.r) (putF "_lefts" (.ref F.l) []))))
theorem yfs_l (F : Foot) : (yfs F).lookup ("_lefts" : Str) = some (.ref F.l) := by
  unfold yfs
  rw [lookup_putF, if_neg klt, lookup_putF, if_neg kln, lookup_putF, if_neg klh, lookup_putF, if_neg klr, lookup_putF, if_pos rfl]
theorem yfs_r (F : Foot) : (yfs F).lookup ("_rights" : Str) = some (.ref F.r) := by
  unfold yfs
  rw [lookup_putF, if_neg krt, lookup_putF, if_neg krn, lookup_putF, if_neg krh, lookup_putF, if_pos rfl]
theorem yfs_h (F : Foot) : (yfs F).lookup ("_heights" : Str) = some (.ref F.h) := by
  unfold yfs
  rw [lookup_putF, if_neg kht, lookup_putF, if_neg khn, lookup_putF, if_pos rfl]
theorem yfs_n (F : Foot) : (yfs F).lookup ("_numbers" : Str) = some (.ref F.n) := by
  unfold yfs
  rw [lookup_putF, if_neg knt, lookup_putF, if_pos rfl]
theorem yfs_t (F : Foot) : (yfs F).lookup ("_turned" : Str) = some (.ref F.t) := by
  unfold yfs
  rw [lookup_putF, if_pos rfl]
theorem yfs_no (F : Foot) {m : Str} (h1 : ¬ m = "_turned") (h2 : ¬ m = "_numbers") (h3 : ¬ m = "_heights") (h4 : ¬ m = "_rights") (h5 : ¬ m = "_lefts") : (yfs F).lookup m = none := by
  unfold yfs
  rw [lookup_putF, if_neg h1, lookup_putF, if_neg h2, lookup_putF, if_neg h3, lookup_putF, if_neg h4, lookup_putF, if_neg h5]
  rfl
/-- refs to tuples of ints -/
def Rows (H : Hp) (xs : List V) (gs : List (List Int)) : Prop := xs.length = gs.length ∧ ∀ (i : Nat) (g : List Int), gs[i]? = some g → ∃ a, xs[i]? = some (.ref a) ∧ H a = some (.tup (g.map V.int))
theorem Rows.ex {H H' : Hp} {xs : List V} {gs : List (List Int)} (r : Rows H xs gs) (k : ∀ c ys, H c = some (.tup ys) → H' c = some (.tup ys)) : Rows H' xs gs :=
  ⟨r.1, fun i g e => let ⟨a, h1, h2⟩ := r.2 i g e; ⟨a, h1, k _ _ h2⟩⟩
theorem Rows.snoc {H : Hp} {xs : List V} {gs : List (List Int)} (r : Rows H xs gs) {a : Addr} {g : List Int} (e : H a = some (.tup (g.map V.int))) : Rows H (xs ++ [.ref a]) (gs ++ [g]) := by
  refine ⟨by rw [List.length_append, List.length_append, r.1]; rfl, fun i g' z => ?_⟩
  by_cases h : i < gs.length
  · rw [List.getElem?_append_left h] at z
    obtain ⟨b, h1, h2⟩ := r.2 i g' z
    exact ⟨b, by rw [List.getElem?_append_left (by rw [r.1]; exact h)]; exact h1, h2⟩
  · have hi : i = gs.length := by
      have := (List.getElem?_eq_some_iff.mp z).1
      rw [List.length_append, List.length_singleton] at this
      omega
    subst hi
    rw [List.getElem?_append_right (Nat.le_refl _), Nat.sub_self] at z
    have e2 : g' = g := by injection z with z; exact z.symm
    subst e2
    exact ⟨a, by rw [← r.1, List.getElem?_append_right (Nat.le_refl _), Nat.sub_self]; rfl, e⟩
/-- the entries of the dict of forms -/
def EntOf (G : List Pr) (kvs : List Ent) : Prop := kvs.length = G.length ∧ ∀ (i : Nat) (g : Pr), G[i]? = some g → ∃ b, kvs[i]? = some (g, b, (i : Int))
/-- a list of ints, strictly ascending, from 0 on below n -/
def Asc (n : Nat) (l : List Int) : Prop := l.Pairwise (· < ·) ∧ ∀ x ∈ l, 0 ≤ x ∧ x < (n : Int)
/-- the forms of a yard's games, one behind the other -/
structure Forms (G : List Pr) : Prop where
  zero : G[0]? = some ([], [])
  one : G.Nodup
  asc : ∀ (i : Nat) (g : Pr), G[i]? = some g → Asc i g.1 ∧ Asc i g.2
/-- the height k of a list of heights -/
def hat (hs : List Int) (k : Int) : Int := hs.getD k.toNat 0
/-- h is the height of the form g, by the heights of its options -/
def IsHt (hs : List Int) (g : Pr) (h : Int) : Prop := (g.1 ++ g.2 = [] ∧ h = 0) ∨ ∃ m, m ∈ (g.1 ++ g.2).map (hat hs) ∧ (∀ y ∈ (g.1 ++ g.2).map (hat hs), y ≤ m) ∧ h = 1 + m
def HtOk (G : List Pr) (hs : List Int) : Prop := ∀ (i : Nat) (g : Pr), G[i]? = some g → IsHt hs g (hat hs i)
structure YardAt (P : Program) (w : World) (K : PySem.W.Frag) (H : Hp) (F : Foot) (G : List Pr) (hv : List Int) (ts : List (Key × V)) : Prop where
  ins : H F.y = some (.ins (He.ga K "Yard") F.dx (yfs F))
  ls : ∃ xs, H F.l = some (.lst xs) ∧ Rows H xs (G.map (·.1))
  rs : ∃ xs, H F.r = some (.lst xs) ∧ Rows H xs (G.map (·.2))
  hs : H F.h = some (.lst (hv.map V.int)) ∧ hv.length = G.length
  ns : ∃ kvs, H F.n = some (NdO P w F.n kvs) ∧ Mine.Keys H kvs ∧ EntOf G kvs
  ts : H F.t = some (.dK ts)
  ne : F.l ≠ F.r ∧ F.l ≠ F.h ∧ F.r ≠ F.h
  ht : HtOk G hv
  G : Forms G
/-- not one of the yard's own objects -/
def Off (F : Foot) (c : Addr) : Prop := c ≠ F.l ∧ c ≠ F.r ∧ c ≠ F.h ∧ c ≠ F.n ∧ c ≠ F.t
/-- all but the yard's own objects stays -/
def Gr (F : Foot) (H H' : Hp) : Prop := ∀ c o, H c = some o → Off F c → H' c = some o
theorem Gr.refl (F : Foot) (H : Hp) : Gr F H H := fun _ _ h _ => h
theorem Gr.trans {F : Foot} {H H1 H2 : Hp} (a : Gr F H H1) (b : Gr F H1 H2) : Gr F H H2 := fun c o h f => b c o (a c o h f) f
theorem Gr.of {F : Foot} {H H' : Hp} (e : Ex H H') : Gr F H H' := fun c o h _ => e c o h
section
variable {P : Program} {w : World} {K : PySem.W.Frag} {H H' : Hp} {F : Foot} {G : List Pr} {hs : List Int} {ts : List (Key × V)}
theorem YardAt.ex (Y : YardAt P w K H F G hs ts) (e : Ex H H') : YardAt P w K H' F G hs ts :=
  ⟨e _ _ Y.ins, let ⟨xs, h1, h2⟩ := Y.ls; ⟨xs, e _ _ h1, h2.ex fun c ys => e c _⟩, let ⟨xs, h1, h2⟩ := Y.rs; ⟨xs, e _ _ h1, h2.ex fun c ys => e c _⟩, ⟨e _ _ Y.hs.1, Y.hs.2⟩,
    let ⟨kvs, h1, h2, h3⟩ := Y.ns; ⟨kvs, e _ _ h1, fun x m => (h2 x m).ex fun c ys => e c _, h3⟩, e _ _ Y.ts, Y.ne, Y.ht, Y.G⟩
/-- a fresh address is off -/
theorem YardAt.fresh (Y : YardAt P w K H F G hs ts) {c : Addr} (h : H c = none) : Off F c := by
  obtain ⟨xs, hl, _⟩ := Y.ls
  obtain ⟨ys, hr, _⟩ := Y.rs
  obtain ⟨kvs, hn, _⟩ := Y.ns
  exact ⟨(ne_of_none hl h).symm, (ne_of_none hr h).symm, (ne_of_none Y.hs.1 h).symm, (ne_of_none hn h).symm, (ne_of_none Y.ts h).symm⟩
/-- a tuple is off -/
theorem YardAt.tup (Y : YardAt P w K H F G hs ts) {c : Addr} {xs : List V} (h : H c = some (.tup xs)) : Off F c := by
  obtain ⟨zs, hl, _⟩ := Y.ls
  obtain ⟨ys, hr, _⟩ := Y.rs
  obtain ⟨kvs, hn, _⟩ := Y.ns
  exact ⟨ne_of h hl (by intro z; cases z), ne_of h hr (by intro z; cases z), ne_of h Y.hs.1 (by intro z; cases z), ne_of h hn (by intro z; cases z), ne_of h Y.ts (by intro z; cases z)⟩
theorem YardAt.meth (Y : YardAt P w K H F G hs ts) {m : Str} {Z : Prop} (h1 : ¬ m = "_turned") (h2 : ¬ m = "_numbers") (h3 : ¬ m = "_heights") (h4 : ¬ m = "_rights") (h5 : ¬ m = "_lefts") (q : Z) :
    ∃ b dx fs, V.ref F.y = V.ref b ∧ H b = some (HO.ins (He.ga K "Yard") dx fs) ∧ fs.lookup m = none ∧ Z := ⟨F.y, F.dx, _, rfl, Y.ins, yfs_no F h1 h2 h3 h4 h5, q⟩
end
/-! lists of ints -/
theorem asc_ext : ∀ {a b : List Int}, a.Pairwise (· < ·) → b.Pairwise (· < ·) → (∀ k, k ∈ a ↔ k ∈ b) → a = b
  | [], [], _, _, _ => rfl
  | [], y :: b, _, _, h => absurd ((h y).mpr List.mem_cons_self) (by simp)
  | x :: a, [], _, _, h => absurd ((h x).mp List.mem_cons_self) (by simp)
  | x :: a, y :: b, ha, hb, h => by
    obtain ⟨a1, a2⟩ := List.pairwise_cons.mp ha
    obtain ⟨b1, b2⟩ := List.pairwise_cons.mp hb
    have e : x = y := by
      have h1 := (h x).mp List.mem_cons_self
      have h2 := (h y).mpr List.mem_cons_self
      rcases List.mem_cons.mp h1 with e | m1
      · exact e
      · rcases List.mem_cons.mp h2 with e | m2
        · exact e.symm
        · have := b1 x m1; have := a1 y m2; omega
    subst e
    congr 1
    refine asc_ext a2 b2 fun k => ⟨fun m => ?_, fun m => ?_⟩
    · rcases List.mem_cons.mp ((h k).mp (List.mem_cons_of_mem _ m)) with e | m'
      · subst e; exact absurd (a1 k m) (Int.lt_irrefl _)
      · exact m'
    · rcases List.mem_cons.mp ((h k).mpr (List.mem_cons_of_mem _ m)) with e | m'
      · subst e; exact absurd (b1 k m) (Int.lt_irrefl _)
      · exact m'
theorem asc_low : ∀ {l : List Int} {lo : Int} {n : Nat}, l.Pairwise (· < ·) → (∀ x ∈ l, lo ≤ x ∧ x < lo + n) → l.length ≤ n
  | [], _, _, _, _ => Nat.zero_le _
  | x :: l, lo, n, h, b => by
    obtain ⟨h1, h2⟩ := List.pairwise_cons.mp h
    have bx := b x List.mem_cons_self
    have z := asc_low (l := l) (lo := x + 1) (n := (lo + n - (x + 1)).toNat) h2 fun y m => by
      have := h1 y m
      have := b y (List.mem_cons_of_mem _ m)
      omega
    rw [List.length_cons]
    omega
theorem Asc.len {n : Nat} {l : List Int} (h : Asc n l) : l.length ≤ n := asc_low (lo := 0) h.1 fun x m => by have := h.2 x m; omega
theorem Asc.up {n m : Nat} {l : List Int} (h : Asc n l) (le : n ≤ m) : Asc m l := ⟨h.1, fun x i => by have := h.2 x i; omega⟩
/-- a form is kept: there already, or the new last one -/
def Put (G : List Pr) (p : Pr) (i : Int) (G' : List Pr) : Prop := (∃ k : Nat, i = k ∧ G[k]? = some p ∧ G' = G) ∨ (p ∉ G ∧ i = G.length ∧ G' = G ++ [p])
theorem Put.get {G G' : List Pr} {p : Pr} {i : Int} (h : Put G p i G') : ∃ k : Nat, i = k ∧ G'[k]? = some p := by
  rcases h with ⟨k, e, h, rfl⟩ | ⟨_, e, rfl⟩
  · exact ⟨k, e, h⟩
  · exact ⟨G.length, e, by rw [List.getElem?_append_right (Nat.le_refl _), Nat.sub_self]; rfl⟩
theorem nodup_at {α : Type} {l : List α} (n : l.Nodup) {i j : Nat} {a : α} (h : l[i]? = some a) (h' : l[j]? = some a) : i = j := by
  obtain ⟨l1, e1⟩ := List.getElem?_eq_some_iff.mp h
  obtain ⟨l2, e2⟩ := List.getElem?_eq_some_iff.mp h'
  have pw := List.pairwise_iff_getElem.mp (show l.Pairwise (· ≠ ·) from n)
  rcases Nat.lt_trichotomy i j with c | c | c
  · exact absurd (e1.trans e2.symm) (pw i j l1 l2 c)
  · exact c
  · exact absurd (e2.trans e1.symm) (pw j i l2 l1 c)
theorem Put.one {G G1 G2 : List Pr} {p : Pr} {i j : Int} (n : G.Nodup) (h : Put G p i G1) (h' : Put G p j G2) : i = j ∧ G1 = G2 := by
  rcases h with ⟨k, rfl, h, rfl⟩ | ⟨h1, rfl, rfl⟩
  · rcases h' with ⟨k', rfl, h', rfl⟩ | ⟨h1', _, _⟩
    · exact ⟨by rw [nodup_at n h h'], rfl⟩
    · exact absurd (List.mem_of_getElem? h) h1'
  · rcases h' with ⟨k', rfl, h', rfl⟩ | ⟨_, rfl, rfl⟩
    · exact absurd (List.mem_of_getElem? h') h1
    · exact ⟨rfl, rfl⟩
theorem Forms.put {G G' : List Pr} {p : Pr} {i : Int} (f : Forms G) (h : Put G p i G') (a : Asc G.length p.1) (b : Asc G.length p.2) : Forms G' := by
  rcases h with ⟨k, _, _, rfl⟩ | ⟨n, _, rfl⟩
  · exact f
  · refine ⟨?_, ?_, fun j g e => ?_⟩
    · have := (List.getElem?_eq_some_iff.mp f.zero).1
      rw [List.getElem?_append_left this]; exact f.zero
    · rw [List.nodup_append]
      refine ⟨f.one, by simp, fun x hx y hy e => ?_⟩
      rw [List.mem_singleton] at hy
      subst hy; subst e
      exact n hx
    · by_cases hj : j < G.length
      · rw [List.getElem?_append_left hj] at e; exact f.asc j g e
      · have hj2 : j = G.length := by
          have := (List.getElem?_eq_some_iff.mp e).1
          rw [List.length_append, List.length_singleton] at this
          omega
        subst hj2
        rw [List.getElem?_append_right (Nat.le_refl _), Nat.sub_self] at e
        injection e with e
        subst e
        exact ⟨a, b⟩
theorem Put.len {G G' : List Pr} {p : Pr} {i : Int} (h : Put G p i G') : G.length ≤ G'.length ∧ G'.length ≤ G.length + 1 ∧ 0 ≤ i ∧ i < G'.length := by
  rcases h with ⟨k, rfl, h, rfl⟩ | ⟨_, rfl, rfl⟩
  · have := (List.getElem?_eq_some_iff.mp h).1
    exact ⟨Nat.le_refl _, Nat.le_succ _, by omega, by omega⟩
  · rw [List.length_append, List.length_singleton]
    exact ⟨by omega, by omega, by omega, by omega⟩
theorem EntOf.look {G : List Pr} {kvs : List Ent} (e : EntOf G kvs) (n : G.Nodup) {p : Pr} : (p ∉ G → Mine.look kvs p = none) ∧ ∀ k : Nat, G[k]? = some p → Mine.look kvs p = some (k : Int) := by
  have mem : ∀ x ∈ kvs, ∃ i : Nat, G[i]? = some x.1 ∧ x.2.2 = (i : Int) := fun x m => by
    obtain ⟨i, hi, e1⟩ := List.mem_iff_getElem.mp m
    have lt : i < G.length := by rw [← e.1]; exact hi
    obtain ⟨b, e2⟩ := e.2 i G[i] (List.getElem?_eq_getElem lt)
    have e3 : kvs[i]? = some x := by rw [List.getElem?_eq_getElem hi, e1]
    rw [e3] at e2
    injection e2 with e2
    subst e2
    exact ⟨i, List.getElem?_eq_getElem lt, rfl⟩
  constructor
  · intro h
    unfold Mine.look
    rw [List.find?_eq_none.mpr]
    · rfl
    · intro x m z
      have z := of_decide_eq_true z
      obtain ⟨i, h1, _⟩ := mem x m
      exact h (z ▸ List.mem_of_getElem? h1)
  · intro k hk
    unfold Mine.look
    cases q : kvs.find? (fun e => decide (e.1 = p)) with
    | none =>
      obtain ⟨b, e2⟩ := e.2 k p hk
      have := List.find?_eq_none.mp q _ (List.mem_of_getElem? e2)
      simp at this
    | some x =>
      have h1 := List.find?_some q
      have h1 : x.1 = p := of_decide_eq_true h1
      obtain ⟨i, h2, h3⟩ := mem x (List.mem_of_find?_eq_some q)
      rw [h1] at h2
      have : i = k := nodup_at n h2 hk
      subst this
      show some x.2.2 = _
      rw [h3]
theorem EntOf.snoc {G : List Pr} {kvs : List Ent} (e : EntOf G kvs) (p : Pr) (b : Addr) : EntOf (G ++ [p]) (kvs ++ [(p, b, (G.length : Int))]) := by
  refine ⟨by rw [List.length_append, List.length_append, e.1]; rfl, fun i g h => ?_⟩
  by_cases hi : i < G.length
  · rw [List.getElem?_append_left hi] at h
    obtain ⟨c, h1⟩ := e.2 i g h
    exact ⟨c, by rw [List.getElem?_append_left (by rw [e.1]; exact hi)]; exact h1⟩
  · have hi2 : i = G.length := by
      have := (List.getElem?_eq_some_iff.mp h).1
      rw [List.length_append, List.length_singleton] at this
      omega
    subst hi2
    rw [List.getElem?_append_right (Nat.le_refl _), Nat.sub_self] at h
    injection h with h
    subst h
    exact ⟨b, by rw [← e.1, List.getElem?_append_right (Nat.le_refl _), Nat.sub_self]; rfl⟩
theorem hat_left {hs : List Int} {x k : Int} (h0 : 0 ≤ k) (h1 : k < hs.length) : hat (hs ++ [x]) k = hat hs k := by
  unfold hat
  rw [List.getD_eq_getElem?_getD, List.getElem?_append_left (by omega), ← List.getD_eq_getElem?_getD]
theorem hat_new (hs : List Int) (x : Int) : hat (hs ++ [x]) (hs.length : Nat) = x := by
  unfold hat
  rw [List.getD_eq_getElem?_getD, Int.toNat_natCast, List.getElem?_append_right (Nat.le_refl _), Nat.sub_self]
  rfl
theorem hats_left {hs : List Int} {x : Int} {n : Nat} {l : List Int} (a : ∀ k ∈ l, 0 ≤ k ∧ k < (n : Int)) (le : n ≤ hs.length) : l.map (hat (hs ++ [x])) = l.map (hat hs) := by
  refine List.map_congr_left fun k m => ?_
  have := a k m
  exact hat_left this.1 (by omega)
theorem Asc.both {n : Nat} {g : Pr} (a : Asc n g.1) (b : Asc n g.2) : ∀ k ∈ g.1 ++ g.2, 0 ≤ k ∧ k < (n : Int) := fun k m => by
  rcases List.mem_append.mp m with h | h
  · exact a.2 k h
  · exact b.2 k h
theorem HtOk.snoc {G : List Pr} {hs : List Int} (o : HtOk G hs) (l : hs.length = G.length) (f : Forms G) {p : Pr} (a : Asc G.length p.1) (b : Asc G.length p.2) {h : Int} (n : IsHt hs p h) : HtOk (G ++ [p]) (hs ++ [h]) := by
  intro i g e
  by_cases hi : i < G.length
  · rw [List.getElem?_append_left hi] at e
    obtain ⟨a1, a2⟩ := f.asc i g e
    rw [hat_left (by omega) (by omega)]
    unfold IsHt
    rw [hats_left (Asc.both a1 a2) (by omega)]
    exact o i g e
  · have hi2 : i = G.length := by
      have := (List.getElem?_eq_some_iff.mp e).1
      rw [List.length_append, List.length_singleton] at this
      omega
    subst hi2
    rw [List.getElem?_append_right (Nat.le_refl _), Nat.sub_self] at e
    injection e with e
    subst e
    rw [← l, hat_new]
    unfold IsHt
    rw [hats_left (Asc.both a b) (by omega)]
    exact n
/-- the height of a new game -/
def Hgt (G : List Pr) (hs : List Int) (p : Pr) (G' : List Pr) (hs' : List Int) : Prop := (p ∈ G ∧ hs' = hs) ∨ (p ∉ G ∧ ∃ m, hs' = hs ++ [1 + m] ∧ m ∈ (p.1 ++ p.2).map (hat hs) ∧ ∀ y ∈ (p.1 ++ p.2).map (hat hs), y ≤ m)
end Mine
namespace Mine
open PySem PySem.Spec PyProof.Rows L2
/-! sorted(a set of ints), up to a thousand of them -/
theorem raw_iv (v : Value) (h : ∃ k tk, v = Value.int k tk) : Builtin.Re.reRawOf v = SrtO.iv v := by
  obtain ⟨k, tk, rfl⟩ := h; rfl
section
variable {P : Program} {w : World} {A : Around} {E : Value → Shared → Prop} {s : Shared}
set_option maxHeartbeats 1600000 in
theorem set_in_order {a : Addr} {S : Int → Bool} {n : Nat} {Q : Value → Shared → Prop} (r : SetR w s.heap a S n) (calm : A.handled = none) (few : n ≤ 1000)
    (q : ∀ (s' : Shared) (p : Addr) (out : Array Value) (c : Nat) (ns : List Int), (∀ b o, s.heap.get? b = some o → s'.heap.get? b = some o) → s'.gens = s.gens → s'.os = s.os → s.heap.objs.size ≤ p →
      s'.heap.get? p = some (seqObj "list" out c) → IntsAre out.toList ns → ns.Pairwise (· < ·) → (∀ k, k ∈ ns ↔ S k = true) → ns.length = n → Q (.ref p) s') :
    wpAny (model P w) A (call (.builtin "sorted") [.ref a]) Q E s := by
  obtain ⟨o, es, ep, t, ho, hex, hd, g, one, mem, hb, hf, cnt, ris, led⟩ := r
  refine Calls.call_function_entry kind_sorted plain_sorted entry_sorted (args_sorted1 _) ?_
  unfold Builtin.«sorted»
  refine wpAny_bind (m := checkCount "sorted" 1 1 _) (wpAny_pure ?_)
  refine wpAny_bind (collect_set (A := A.in1) calm ⟨o, ho, hex.1, hd⟩ hf hb ris led fun s1 vs old hz gens1 os1 pm => ?_)
  have many : vs.length = n := by rw [pm.length_eq, List.length_map, Array.length_toList]; exact cnt
  have isI : ∀ v ∈ vs, ∃ k tk, v = Value.int k tk := fun v hv => by
    obtain ⟨e, he, z⟩ := List.mem_map.mp (pm.mem_iff.mp hv)
    obtain ⟨k, tk, h1, _⟩ := g e he
    exact ⟨k, tk, by rw [← z]; exact h1⟩
  have isL := SrtO.ints_iv isI
  have keys : (vs.map SrtO.iv).Perm (es.toList.map L2.keyOf) := by
    have z := pm.map Builtin.Re.reRawOf
    rw [List.map_map] at z
    have e : vs.map Builtin.Re.reRawOf = vs.map SrtO.iv := List.map_congr_left fun v hv => raw_iv v (isI v hv)
    rw [e] at z
    exact z
  have line : vs.length ≤ sizeLine := by rw [many]; exact Nat.le_trans few (by decide)
  refine wpAny_bind (wpAny_newList ?_ line)
  have at_l : (s1.heap.push (seqObj "list" vs.toArray 0)).get? s1.heap.objs.size = some (seqObj "list" vs.toArray 0) := Heap.get?_push_size _ rfl
  refine wpAny_bind (wpAny_holding (wpAny_call_entry slot_list_sort ⟨_, at_l, rfl⟩ entry_list_sort (SrtO.list_sort_ord SrtO.swo_int at_l line (fun h2 => SrtO.ints_sortable isL h2) fun out h1 h2 => ⟨_, rfl, ?_⟩) (args_list_sort _)))
  obtain ⟨k1, k2, k3⟩ := SrtO.ints_out isL h1 h2
  obtain ⟨c, hc⟩ := sortedHeap_at (vs := vs) (out := out.toArray) at_l
  have pn := k2.trans keys
  refine wpAny_pure ⟨_, rfl, q _ s1.heap.objs.size out.toArray c (out.map SrtO.iv) (fun b u e => ?_) gens1 os1 hz hc k1 (lt_of_le_nodup _ k3 (pn.nodup_iff.mpr one)) (fun k => by rw [pn.mem_iff, ← mem k]) ?_⟩
  · have z := old b u e
    have lt := Heap.lt_size z
    show (sortedHeap (s1.heap.push (seqObj "list" vs.toArray 0)) s1.heap.objs.size vs out.toArray).get? b = some u
    rw [sortedHeap_old (Nat.ne_of_lt lt) (by rw [size_push']; exact Nat.lt_succ_of_lt lt)]
    exact Heap.get?_push_of_some _ z
  · rw [pn.length_eq, List.length_map, Array.length_toList]; exact cnt
end
def rSortX (w : World) : List V → Hp → VK → Prop := fun vs H Q => ∃ (a : Addr) (S : Int → Bool) (n : Nat), vs = [V.ref a] ∧ H a = some (SetO w a S n) ∧ n ≤ 1000 ∧
  ∀ (ns : List Int) (p : Addr), ns.Pairwise (· < ·) → (∀ k : Int, k ∈ ns ↔ S k = true) → ns.length = n → H p = none → Q (.ref p) (upd H p (.lst (ns.map V.int)))
theorem cr_sortX {X : Cx} (hc : X.calm = true) : CallR X (.builtin "sorted") (rSortX X.w) := by
  intro pins s σ H vs us Q I r h
  obtain ⟨a, S, n, rfl, ha, few, q⟩ := h
  rw [Vals.ref1 r]
  refine set_in_order (setO_get I ha) (I.ok.hd hc) few fun s' p out c ns k g o hp hg hi hs hm hl => ?_
  have line : (ns.map V.int).length ≤ sizeLine := by rw [List.length_map, hl]; exact Nat.le_trans few (by decide)
  have np : H p = none := I.hok.fresh hp
  have J : Inv X pins σ (upd H p (.lst (ns.map V.int))) { s with heap := s'.heap, gens := s'.gens, drawn := s'.drawn, toks := s'.toks } :=
    I.call (ch := []) (Un.laid k hp np) (I.hok.laid k hp ⟨line, out.toList, c, vals_of_ints hi, hg⟩) (by rw [g]; exact I.bare) (fun _ z => nomatch z)
  have e : s' = { s with heap := s'.heap, gens := s'.gens, drawn := s'.drawn, toks := s'.toks } := by
    cases s'; cases s; cases o; rfl
  rw [e]
  exact ⟨.ref p, _, J, rfl, q ns p hs hm hl np⟩
end Mine
namespace Mine
open PySem PySem.Spec PyProof.Rows L2
open Evl (Ex)
theorem hu9 {A : Around} {k : Nat} (hr : Room k A) : A.units + 9 < cLine := by have := hr.units; omega
/-! comprehensions whose items are known -/
/-- what a comprehension asks behind its source -/
def lcR (g : TG) (tt : TT) (te : TE) (vs : List Nat) (σ : L2.St) (Q : VK) : It → Hp → Prop := fun J H1 => ∀ D, H1 D = none → ∃ W : Nat → Nat → Hp → Prop, (∃ m, W 0 m (upd H1 D (.lst []))) ∧ ∀ i m H, W i m H →
  (J.stop i H ∧ Q (.ref D) H) ∨ (J.go i H ∧ ∃ Nx : Hp → Prop, (∀ H', Nx H' → ∃ m', m' < m ∧ W (i + 1) m' H') ∧ ∀ x H', J.yld i H x H' → g x (wipe σ vs) H' fun σ2 H2 => wipe σ2 vs = wipe σ vs ∧ tt σ2 H2 fun b H3 =>
    if b = true then te σ2 H3 fun y H4 => ∃ acc, H4 D = some (.lst acc) ∧ acc.length < sizeLine ∧ Nx (upd H4 D (.lst (acc ++ [y]))) else Nx H3)
/-- one turn gives the item o (none: it is left out) -/
def turnR (g : TG) (tt : TT) (te : TE) (vs : List Nat) (σ : L2.St) (x : V) (o : Option V) (H1 : Hp) : Prop := ∀ H', Ex H1 H' → ∀ R : Option V → Hp → Prop, (∀ H'', Ex H' H'' → R o H'') →
  g x (wipe σ vs) H' fun σ2 H2 => wipe σ2 vs = wipe σ vs ∧ tt σ2 H2 fun b H3 => if b = true then te σ2 H3 fun y H4 => R (some y) H4 else R none H3
/-- the way a reading passes a weaker wish on -/
structure MonoLc (g : TG) (tt : TT) (te : TE) (vs : List Nat) (σ : L2.St) : Prop where
  up : ∀ (x : V) (H' : Hp) (R R' : Option V → Hp → Prop), (∀ o H, R o H → R' o H) → (g x (wipe σ vs) H' fun σ2 H2 => wipe σ2 vs = wipe σ vs ∧ tt σ2 H2 fun b H3 => if b = true then te σ2 H3 fun y H4 => R (some y) H4 else R none H3) →
    g x (wipe σ vs) H' fun σ2 H2 => wipe σ2 vs = wipe σ vs ∧ tt σ2 H2 fun b H3 => if b = true then te σ2 H3 fun y H4 => R' (some y) H4 else R' none H3
section
variable {g : TG} {tt : TT} {te : TE} {vs : List Nat} {σ : L2.St} {Q : VK} {H1 : Hp} {K : PySem.W.Frag} {wi : TI}
theorem k_lc {H : Hp} (q : wi σ H (lcR g tt te vs σ Q)) : tLc wi g tt te vs σ H Q := q
theorem turn_in {x : V} {o : Option V} {D : Addr} {acc : List V} {H : Hp} {Nx : Hp → Prop} (t : turnR g tt te vs σ x o H1) (e : Ex H1 H) (hD : H1 D = none) (a : H D = some (.lst acc)) (len : acc.length < sizeLine)
    (nx : ∀ H', Ex H1 H' → H' D = some (.lst (acc ++ o.toList)) → Nx H') :
    g x (wipe σ vs) H fun σ2 H2 => wipe σ2 vs = wipe σ vs ∧ tt σ2 H2 fun b H3 => if b = true then te σ2 H3 fun y H4 => ∃ acc, H4 D = some (.lst acc) ∧ acc.length < sizeLine ∧ Nx (upd H4 D (.lst (acc ++ [y]))) else Nx H3 := by
  refine t H e (fun o' H4 => match o' with | some y => ∃ acc, H4 D = some (.lst acc) ∧ acc.length < sizeLine ∧ Nx (upd H4 D (.lst (acc ++ [y]))) | none => Nx H4) fun H'' e2 => ?_
  cases o with
  | none => exact nx H'' (e.trans e2) (by rw [e2 _ _ a]; simp)
  | some y => exact ⟨acc, e2 _ _ a, len, nx _ (Evl.Ex.mut (e.trans e2) hD) upd_same⟩
theorem lcR_list {a : Addr} {xs : List V} (f : V → Option V) (hS : SqL K H1 a xs) (len : xs.length < sizeLine) (t : ∀ x ∈ xs, turnR g tt te vs σ x (f x) H1)
    (q : ∀ D H', H1 D = none → Ex H1 H' → H' D = some (.lst (xs.filterMap f)) → Q (.ref D) H') : lcR g tt te vs σ Q (Itl K a) H1 := by
  intro D hD
  refine lc_list (K := K) (a := a) (xs := xs) (fun i H => Ex H1 H ∧ H D = some (.lst ((xs.take i).filterMap f))) ⟨Evl.Ex.new hD, upd_same⟩ (fun i H _ p => Evl.ex_l p.1 hS) (fun i x H hx p => ?_) (fun H p => ?_)
  · refine turn_in (t x (List.mem_of_getElem? hx)) p.1 hD p.2 ?_ fun H' e h' => ⟨e, ?_⟩
    · refine Nat.lt_of_le_of_lt (Nat.le_trans (List.length_filterMap_le _ _) ?_) len
      rw [List.length_take]; omega
    · rw [h', List.take_add_one, hx, List.filterMap_append]
      cases h : f x <;> simp [h]
  · refine q D H hD p.1 ?_
    rw [p.2, List.take_of_length_le (Nat.le_refl _)]
theorem lcR_tup {a : Addr} {xs : List V} (f : V → Option V) (hS : SqT K H1 a xs) (len : xs.length < sizeLine) (t : ∀ x ∈ xs, turnR g tt te vs σ x (f x) H1)
    (q : ∀ D H', H1 D = none → Ex H1 H' → H' D = some (.lst (xs.filterMap f)) → Q (.ref D) H') : lcR g tt te vs σ Q (Itt K a) H1 := by
  intro D hD
  refine lc_tup (K := K) (a := a) (xs := xs) (fun i H => Ex H1 H ∧ H D = some (.lst ((xs.take i).filterMap f))) ⟨Evl.Ex.new hD, upd_same⟩ (fun i H _ p => Evl.ex_t p.1 hS) (fun i x H hx p => ?_) (fun H p => ?_)
  · refine turn_in (t x (List.mem_of_getElem? hx)) p.1 hD p.2 ?_ fun H' e h' => ⟨e, ?_⟩
    · refine Nat.lt_of_le_of_lt (Nat.le_trans (List.length_filterMap_le _ _) ?_) len
      rw [List.length_take]; omega
    · rw [h', List.take_add_one, hx, List.filterMap_append]
      cases h : f x <;> simp [h]
  · refine q D H hD p.1 ?_
    rw [p.2, List.take_of_length_le (Nat.le_refl _)]
theorem lcR_rng {n : Nat} (f : Nat → Option V) (len : n < sizeLine) (t : ∀ i, i < n → turnR g tt te vs σ (.int (i : Int)) (f i) H1)
    (q : ∀ D H', H1 D = none → Ex H1 H' → H' D = some (.lst ((List.range n).filterMap f)) → Q (.ref D) H') : lcR g tt te vs σ Q (Itr 0 n) H1 := by
  intro D hD
  refine lc_range (lo := 0) (n := n) (fun i H => Ex H1 H ∧ H D = some (.lst ((List.range i).filterMap f))) ⟨Evl.Ex.new hD, upd_same⟩ (fun i H hi p => ?_) (fun H p => q D H hD p.1 p.2)
  have e0 : (0 : Int) + (i : Int) = (i : Int) := Int.zero_add _
  rw [e0]
  refine turn_in (t i hi) p.1 hD p.2 ?_ fun H' e h' => ⟨e, ?_⟩
  · refine Nat.lt_of_le_of_lt (Nat.le_trans (List.length_filterMap_le _ _) ?_) (Nat.lt_trans hi len)
    rw [List.length_range]; exact Nat.le_refl i
  · rw [h', List.range_succ, List.filterMap_append]
    cases h : f i <;> simp [h]
/-- a turn of x where the item is plain -/
theorem turn_map {i : Nat} {x y : V} (h : ∀ H', Ex H1 H' → ∀ R : VK, R y H' → te ((wipe σ [i]).set i (some x)) H' R) (w : wipe ((wipe σ [i]).set i (some x)) [i] = wipe σ [i] := by rfl) : turnR (gName i) tYes te [i] σ x (some y) H1 :=
  fun H' e R r => ⟨w, h H' e (fun y H4 => R (some y) H4) (r H' (Evl.Ex.refl _))⟩
end
section
variable {X : Cx}
/-- tuple(xs), xs a list -/
def rTupL (K : PySem.W.Frag) : List V → Hp → VK → Prop := fun vs H Q => ∃ p ys, vs = [V.ref p] ∧ SqL K H p ys ∧ ∀ l, H l = none → Q (.ref l) (upd H l (.tup ys))
theorem cr_tupL : CallR X (.type "tuple") (rTupL X.K) := fun pins s σ H xs us Q I r h =>
  let ⟨p, ys, e, h1, q⟩ := h
  call_tuple_of pins s σ H xs us Q I r ⟨p, ys, e, Or.inl ⟨h1, q⟩⟩
end
section
variable {H : Hp} {Q : VK} {K : PySem.W.Frag}
theorem k_tsl {r : V → Option Int → Option Int → Hp → VK → Prop} {σ : L2.St} {te : TE} {tl th : TO} (q : te σ H fun x H1 => tl σ H1 fun l H2 => th σ H2 fun u H3 => r x l u H3 Q) : L2.tSl r te tl th σ H Q := q
theorem k_part {σ : L2.St} {t : TE} {R : Option Int → Hp → Prop} (q : t σ H fun x H1 => ∃ i, x = .int i ∧ R (some i) H1) : tPart t σ H R := q
theorem k_nopart {σ : L2.St} {R : Option Int → Hp → Prop} (q : R none H) : tNoPart σ H R := q
theorem k_exi {R : Int → Prop} {j : Int} (q : R j) : ∃ i, V.int j = V.int i ∧ R i := ⟨j, rfl, q⟩
theorem k_slL {a : Addr} {xs : List V} {lo hi : Option Int} (h : SqL K H a xs) (q : ∀ p, H p = none → Q (.ref p) (upd H p (.lst (cutV xs lo hi)))) : rSlL K (.ref a) lo hi H Q := ⟨a, xs, rfl, h, q⟩
theorem k_sfl {σ : L2.St} {D : Ends} {ta tv : TE} {f : Str} (q : tv σ H fun y H1 => ta σ H1 fun x H2 => ∃ a C dx fs, x = .ref a ∧ H2 a = some (.ins C dx fs) ∧ Cls K C ∧ NoAttr K C f ∧ fs.length < 1000 ∧ D.nx σ (upd H2 a (.ins C dx (putF f y fs)))) : sFld K ta tv f D σ H := q
theorem k_nnot {P : Program} {w : World} {σ : L2.St} {ty td : TE} (q : ty σ H fun y H1 => td σ H1 fun x H2 => ∃ a b kvs p, x = V.ref a ∧ y = V.ref b ∧ H2 a = some (NdO P w a kvs) ∧ Mine.Keys H2 kvs ∧ PrT H2 b p ∧ Q (.bl (!(look kvs p).isSome)) H2) : tNNot P w ty td σ H Q := q
theorem k_nget {P : Program} {w : World} {σ : L2.St} {ty td : TE} (q : td σ H fun x H1 => ty σ H1 fun y H2 => ∃ a b kvs p v, x = V.ref a ∧ y = V.ref b ∧ H2 a = some (NdO P w a kvs) ∧ Mine.Keys H2 kvs ∧ PrT H2 b p ∧ look kvs p = some v ∧ Q (.int v) H2) : tNGet P w td ty σ H Q := q
theorem k_nput {P : Program} {w : World} {σ : L2.St} {D : Ends} {ty td tv : TE} (q : tv σ H fun z H1 => td σ H1 fun x H2 => ty σ H2 fun y H3 => ∃ a b kvs p v, z = V.int v ∧ x = V.ref a ∧ y = V.ref b ∧ H3 a = some (NdO P w a kvs) ∧ Mine.Keys H3 kvs ∧ PrT H3 b p ∧ look kvs p = none ∧
  kvs.length < sizeLine ∧ D.nx σ (upd H3 a (NdO P w a (kvs ++ [(p, b, v)])))) : sNPut P w td ty tv D σ H := q
theorem k_dget {σ : L2.St} {ty td : TE} (q : td σ H fun x H1 => ty σ H1 fun y H2 => ∃ a v, x = V.ref a ∧ DGet H2 a y (some v) ∧ Q v H2) : tDGet td ty σ H Q := q
theorem k_din {σ : L2.St} {ty td : TE} (q : ty σ H fun y H1 => td σ H1 fun x H2 => ∃ a o, x = V.ref a ∧ DGet H2 a y o ∧ Q (.bl o.isSome) H2) : tDIn ty td σ H Q := q
theorem k_dnotin {σ : L2.St} {ty td : TE} (q : ty σ H fun y H1 => td σ H1 fun x H2 => ∃ a o, x = V.ref a ∧ DGet H2 a y o ∧ Q (.bl (!o.isSome)) H2) : tDNotIn ty td σ H Q := q
theorem k_dput {σ : L2.St} {D : Ends} {ty td tv : TE} (q : tv σ H fun v H1 => td σ H1 fun x H2 => ty σ H2 fun y H3 => ∃ a H4, x = V.ref a ∧ DPut H3 a y v H4 ∧ D.nx σ H4) : sDPut td ty tv D σ H := q
theorem k_rCatA {a b : Addr} {xs ys : List V} (h1 : SqT K H a xs) (h2 : SqT K H b ys) (l : xs.length + ys.length ≤ sizeLine) (q : ∀ p H', Ex H H' → SqT K H' p (xs ++ ys) → Q (.ref p) H') : rCatA K (.ref a) (.ref b) H Q :=
  ⟨a, b, xs, ys, rfl, rfl, h1, h2, l, fun e => q b H (Evl.Ex.refl H) (by rw [e]; exact h2), fun _ e => q a H (Evl.Ex.refl H) (by rw [e, List.append_nil]; exact h1), fun _ _ p n => q p _ (Evl.Ex.new n) (k_st upd_same)⟩
/-- what an item of ints is made into -/
def onI (f : Int → Int) : V → Option V := fun v => match v with | .int k => some (.int (f k)) | _ => none
theorem onI_map (f : Int → Int) (ns : List Int) : (ns.map V.int).filterMap (onI f) = (ns.map f).map V.int := by
  induction ns with
  | nil => rfl
  | cons x xs ih =>
    have e : onI f (V.int x) = some (V.int (f x)) := rfl
    rw [List.map_cons, List.filterMap_cons, e, ih]
    rfl
theorem hat_at {hs : List Int} {k : Int} {n : Nat} (l : hs.length = n) (h0 : 0 ≤ k) (h1 : k < n) : atI (hs.map V.int) k = some (V.int (hat hs k)) := by
  obtain ⟨z, hz, e⟩ := at_int (ns := hs) h0 (by omega)
  rw [e]
  unfold hat
  rw [List.getD_eq_getElem?_getD, hz]
  rfl
theorem k_rTupL {p : Addr} {ys : List V} (h : SqL K H p ys) (q : ∀ l, H l = none → Q (.ref l) (upd H l (.tup ys))) : rTupL K [.ref p] H Q := ⟨p, ys, rfl, h, q⟩
theorem k_rListL {p : Addr} {ys : List V} (h : SqL K H p ys) (q : ∀ l, H l = none → Q (.ref l) (upd H l (.lst ys))) : rListQ K [.ref p] H Q := ⟨p, ys, rfl, Or.inl h, q⟩
theorem k_rListT {p : Addr} {ys : List V} (h : SqT K H p ys) (q : ∀ l, H l = none → Q (.ref l) (upd H l (.lst ys))) : rListQ K [.ref p] H Q := ⟨p, ys, rfl, Or.inr h, q⟩
theorem k_rSetL {w : World} {p : Addr} {ns : List Int} (h : SqL K H p (ns.map V.int)) (b : ns.length ≤ 1000) (q : ∀ (p : Addr) (c : Nat), H p = none → c ≤ ns.length → Q (.ref p) (upd H p (SetO w p (fun j => decide (j ∈ ns)) c))) : rSetL K w [.ref p] H Q :=
  ⟨p, ns, rfl, h, Nat.lt_of_le_of_lt (Nat.succ_le_succ b) (by decide), q⟩
theorem k_rSorted {w : World} {a : Addr} {S : Int → Bool} {n : Nat} (h : H a = some (SetO w a S n)) (l : n ≤ 1000) (q : ∀ (ns : List Int) (p : Addr), ns.Pairwise (· < ·) → (∀ k : Int, k ∈ ns ↔ S k = true) → ns.length = n → H p = none → Q (.ref p) (upd H p (.lst (ns.map V.int)))) :
    rSortX w [.ref a] H Q := ⟨a, S, n, rfl, h, l, q⟩
theorem inV_ints (x : Int) : ∀ ns : List Int, inV (V.int x) (ns.map V.int) = decide (x ∈ ns)
  | [] => rfl
  | y :: ys => by
    show (eqV (V.int y) (V.int x) || inV (V.int x) (ys.map V.int)) = _
    rw [inV_ints x ys]
    have e1 : eqV (V.int y) (V.int x) = decide (x = y) := by
      by_cases h1 : x = y
      · subst h1; simp [eqV]
      · simp [eqV, h1, Ne.symm h1]
    rw [e1]
    by_cases h1 : x = y <;> simp [h1]
theorem k_in {neg : Bool} {x : Int} {p : Addr} {ns : List Int} (h : SqL K H p (ns.map V.int)) (q : Q (.bl (if neg then !decide (x ∈ ns) else decide (x ∈ ns))) H) : rIn K neg (.int x) (.ref p) H Q := by
  have f : (ns.map V.int).all flatV = true := by simp [flatV]
  exact ⟨p, _, rfl, Or.inl h, rfl, f, by rw [inV_ints]; exact q⟩
theorem k_rMaxL {a : Addr} {ns : List Int} (h : SqL K H a (ns.map V.int)) (l : 0 < ns.length) (q : ∀ m, m ∈ ns → (∀ y, y ∈ ns → y ≤ m) → Q (.int m) H) : rMax K [.ref a] H Q := ⟨a, ns, rfl, h, l, q⟩
theorem k_rCat {a b : Addr} {xs ys : List V} (h1 : H a = some (.lst xs)) (h2 : H b = some (.lst ys)) (l : xs.length + ys.length ≤ sizeLine) (q : ∀ p, H p = none → Q (.ref p) (upd H p (.lst (xs ++ ys)))) : rCat (.ref a) (.ref b) H Q := ⟨a, b, xs, ys, rfl, rfl, h1, h2, l, q⟩
end
end Mine
namespace Mine
open PySem PySem.Spec PyProof.Rows L2
open Evl (Ex)
/-! a part that is read under a condition on the error -/
def tWhen (p : Prop) (t : TS) : TS := fun D σ H => p ∧ t D σ H
theorem pss_when {X : Cx} {b : List Stmt} {p : Prop} {t : TS} (h : p → PSs X b t) : PSs X b (tWhen p t) :=
  ⟨fun pins s σ H D I q => (h q.1).run pins s σ H D I q.2⟩
theorem zc_at {cls c : Value} {d : Option Addr} {oe : Obj} (h : cls = c ∧ d = none) (z : Zc cls d oe) : Zc c none oe := by
  obtain ⟨rfl, rfl⟩ := h
  exact z
/-- try: body except c as (slot i): suite -/
def tTryAs (K : PySem.W.Frag) (c : Value) (i : Nat) (tb : WX → TS) (ts : Addr → Value → Option Addr → TS) : TS := fun D σ H => tb (wAs K c i ts (fun _ _ _ _ => False) D) D σ H
theorem k_isE {K : PySem.W.Frag} {D a : Addr} {c : V} {cv : Value} {b : Bool} {H : Hp} {Q : VK} (h : PySem.W.kitOne K (.ref D) cv = some b) (hc : ∀ u, RelV c u → u = cv) (q : Q (.bl b) H) : rIsE K D a [.ref a, c] H Q :=
  ⟨c, cv, b, rfl, hc, h, q⟩
theorem rel_ref {c : Addr} : ∀ u, RelV (.ref c) u → u = .ref c := fun _ h => h
theorem rel_ty {n : String} : ∀ u, RelV (.ty n) u → u = .type n := fun _ h => h
/-- C(e, ..) where its __init__ may raise, at the slots -/
def tMakeS (C : Addr) (sp : Sp) (dvs : List V) (E : L2.St → XK) (t : TA) : TE := fun σ H Q => t σ H fun vs H1 => ∀ x dx, H1 x = none → H1 dx = none → dx ≠ x → sp (.ref x :: (vs ++ dvs)) (upd (upd H1 dx (.own x)) x (.ins C dx [])) (fun v H2 => v = .non ∧ Q (.ref x) H2) (E σ)
section
variable {X : Cx} {CX : CXT} {k : Nat} {f C : Addr} {fd : FuncData} {ps : List Str} {sp : Sp} {E : L2.St → XK} {dvs : List V} {ds : List Value} {x : Str} {p pos : Pos} {e : Expr} {es : List Expr} {t : TA}
theorem pe_makeS (M : Mk X.K C f) (F : FnOk X.prog X.w X.K X.mg X.base CX k f fd ps sp) (hr : Room (k + 1) X.A) (hg : Gl X x) (hm : X.mg x = some (.ref C)) (hb : Binds X.K fd ps ds) (hd : Vals dvs ds) (hx : ∀ σ, PassesAt CX X σ (E σ))
    (ha : PA X (e :: es) t) (hdb : (x == ("__debug__" : Str)) = false := by decide) (he : starEach (e :: es) X.env = (false, eval e X.env) :: starEach es X.env := by rfl) (hpl : (backTo pos (starEach es X.env)).any (·.1) = false := by rfl) :
    PE X (.Call (.Name x p) (e :: es) [] pos) (tMakeS C sp dvs E t) := by
  constructor
  intro pins s σ H Q I h
  refine wpAny_Call_Name_kw (ld_glob I hg hm ?_ hdb)
  refine PySem.W.callWith_K (h₀ := X.base) I.ok.mod.kin M.kp ?_ he hpl
  refine thn (ha.run pos pins s σ H _ I h) ?_
  rintro us s1 ⟨vs, H1, I1, r, q⟩
  refine ⟨I1.kIn, ?_⟩
  have q1 := q (s1.heap.objs.size + 1) s1.heap.objs.size (I1.hok.fresh (Nat.le_succ _)) (I1.hok.fresh (Nat.le_refl _)) (Nat.ne_of_lt (Nat.lt_succ_self _))
  have J := Inv.made (C := C) I1
  have rr : Vals (V.ref (s1.heap.objs.size + 1) :: (vs ++ dvs)) (Value.ref (s1.heap.objs.size + 1) :: (us ++ ds)) := .cons rfl (r.append hd)
  have hl : (Value.ref (s1.heap.objs.size + 1) :: us ++ ds).length = ps.length := by
    rw [← F.len _ _ _ _ q1]; exact rr.length.symm
  refine wpAny_call (make_map (f := f) I1.kIn M.makes M.init (beq_iff_eq.mp M.fn) (codeAny_mono (F.run _ X.stack _ _ ⟨Value.ref (s1.heap.objs.size + 1) :: us, []⟩ (Value.ref (s1.heap.objs.size + 1) :: (us ++ ds)) _ _ (E σ) (hr.make C us [])
    (J.env0.make C us []) (hb _ (Value.ref (s1.heap.objs.size + 1) :: us) J.kIn hl) rr q1) ?_))
  rintro (er | fl) s' hq
  · exact hx σ pins _ _ er s' J hq
  · cases fl with
    | ret u =>
      obtain ⟨v, H', I3, rv, ev, q3⟩ := J.after hq
      subst ev
      exact ⟨rv, ⟨V.ref (s1.heap.objs.size + 1), H', I3, rfl, q3⟩⟩
    | next => exact False.elim hq
    | brk => exact False.elim hq
    | cont => exact False.elim hq
end
open PySem.W (Frag)
def excCB (K : Frag) (C : Str) : Bool :=
  He.eqO (PySem.W.findIn K (.ref (He.ga K C)) "__getattribute__") (some (some (.builtin "BaseException.__getattribute__"))) &&
  (decide (PySem.W.findIn K (.ref (He.ga K C)) "__getattr__" = some none) &&
  (decide (PySem.W.subIn K (.ref (He.ga K C)) (.type "BaseException") = some true) &&
  (decide (PySem.W.hasDictIn K (He.ga K C) = true) &&
  (He.eqO (PySem.W.findIn K (.ref (He.ga K C)) "__class__") (some (some (.builtin "object.__class__"))) &&
  (He.eqO (PySem.W.specialIn K (.builtin "object.__class__") "__get__") (some (some (.builtin "getset_descriptor.__get__"))) &&
  (decide (PySem.W.takesIn K (.builtin "object.__class__") = some true) && decide (PySem.W.mroIn K (He.ga K C) (.type "object") = some true)))))))
theorem excC_ok {K : Frag} {C : Str} (h : excCB K C = true) : ExcC K (He.ga K C) := by
  unfold excCB at h
  rw [Bool.and_eq_true, Bool.and_eq_true, Bool.and_eq_true, Bool.and_eq_true, Bool.and_eq_true, Bool.and_eq_true, Bool.and_eq_true] at h
  obtain ⟨h1, h2, h3, h4, h5, h6, h7, h8⟩ := h
  exact ⟨He.eqO_ok h1, of_decide_eq_true h2, of_decide_eq_true h3, of_decide_eq_true h4, He.eqO_ok h5, He.eqO_ok h6, of_decide_eq_true h7, of_decide_eq_true h8⟩
/-- what the errors' classes say of BadValue -/
structure FBadValue (K : Frag) : Prop where
  ex : PySem.W.exmOne K (.ref (He.ga K "BadValue")) (.ref (He.ga K "PlayError")) = some true
  k1 : PySem.W.kitOne K (.ref (He.ga K "BadValue")) (.ref (He.ga K "BadText")) = some false
  k2 : PySem.W.kitOne K (.ref (He.ga K "BadValue")) (.ref (He.ga K "NoMove")) = some false
  k3 : PySem.W.kitOne K (.ref (He.ga K "BadValue")) (.ref (He.ga K "Unknown")) = some false
  k4 : PySem.W.kitOne K (.ref (He.ga K "BadValue")) (.ref (He.ga K "BadValue")) = some true
  k5 : PySem.W.kitOne K (.ref (He.ga K "BadValue")) (.type "ValueError") = some true
end Mine
namespace Mine
open PySem PySem.Spec PyProof.Rows L2
open Evl (Ex)
section
variable {σ : L2.St} {H : Hp} {Q : VK} {K : PySem.W.Frag} {D : Ends}
theorem k_tryAs {c : Value} {i : Nat} {tb : WX → TS} {ts : Addr → Value → Option Addr → TS} (q : tb (wAs K c i ts (fun _ _ _ _ => False) D) D σ H) : tTryAs K c i tb ts D σ H := q
theorem k_makeS {C : Addr} {sp : Sp} {dvs : List V} {E : L2.St → XK} {t : TA} (q : t σ H fun vs H1 => ∀ x dx, H1 x = none → H1 dx = none → dx ≠ x → sp (.ref x :: (vs ++ dvs)) (upd (upd H1 dx (.own x)) x (.ins C dx [])) (fun v H2 => v = .non ∧ Q (.ref x) H2) (E σ)) : tMakeS C sp dvs E t σ H Q := q
theorem k_callSD {sp : Sp} {dvs : List V} {E : L2.St → XK} {t : TA} (q : t σ H fun vs H1 => sp (vs ++ dvs) H1 Q (E σ)) : tCallSD sp dvs E t σ H Q := q
theorem k_when {p : Prop} {t : TS} (h : p) (q : t D σ H) : tWhen p t D σ H := ⟨h, q⟩
/-- the suite is reached -/
theorem k_wAs {cls : Value} {c : Value} {i : Nat} {d : Option Addr} {ts : Addr → Value → Option Addr → TS} {Wout : WX} (e : PySem.W.exmOne K cls c = some true)
    (q : ∀ a, H a = none → ts a cls d { nx := fun σ' H' => D.nx (σ'.set i none) H', rt := D.rt, bk := fun σ' H' => D.bk (σ'.set i none) H', ct := fun σ' H' => D.ct (σ'.set i none) H' } (σ.set i (some (.ref a))) H) : WE (wAs K c i ts Wout D) σ cls d H :=
  ⟨true, e, fun _ => q, fun z => Bool.noConfusion z⟩
theorem TyB.ex {H H' : Hp} {x : V} {T : String} (t : TyB K H x T) (e : Ex H H') : TyB K H' x T := by
  cases t
  case lst h => exact .lst (Evl.ex_l e h)
  case tup h => exact .tup (Evl.ex_t e h)
  case dK h => exact .dK (e _ _ h)
  all_goals constructor
end
/-! keywords -/
def gKA {α : Type} (us ds zs : List α) : List α := us ++ (zs ++ ds)
def gKB {α : Type} (us _ zs : List α) : List α := us ++ zs
def gKC {α : Type} (us _ zs : List α) : List α := us ++ zs.reverse
theorem vals_rev {vs : List V} {us : List Value} (r : Vals vs us) : Vals vs.reverse us.reverse := by
  induction r with
  | nil => exact .nil
  | cons h _ ih => rw [List.reverse_cons, List.reverse_cons]; exact ih.append (.cons h .nil)
theorem gKA_rel {vs ds zs : List V} {us its ws : List Value} (r : Vals vs us) (rd : Vals ds its) (rz : Vals zs ws) : Vals (gKA vs ds zs) (gKA us its ws) := r.append (rz.append rd)
theorem gKB_rel {vs ds zs : List V} {us its ws : List Value} (r : Vals vs us) (_ : Vals ds its) (rz : Vals zs ws) : Vals (gKB vs ds zs) (gKB us its ws) := r.append rz
theorem gKC_rel {vs ds zs : List V} {us its ws : List Value} (r : Vals vs us) (_ : Vals ds its) (rz : Vals zs ws) : Vals (gKC vs ds zs) (gKC us its ws) := r.append (vals_rev rz)
end Mine
namespace Mine
open PySem PySem.Spec PyProof.Rows L2
open PySem.AutoSeq1
/-! enumerate(a tuple) -/
set_option maxHeartbeats 1600000 in
theorem meets_enum1 {v : Value} {o : Obj} {G : Heap → Prop} (B : Begins v o G) :
    Meets (Builtin.«enumerate.__new__» ⟨[.type "enumerate", v], []⟩) (fun _ R s => G s.heap ∧
      R (.ok (.ret (.ref (s.heap.push o).objs.size))) { s with heap := (s.heap.push o).push { cls := .type "enumerate", data := .fields #[.none, .bool false, .ref s.heap.objs.size, rawInt 0, .none, .none] } }) :=
  .of_wp fun prog w A R s h => by
    obtain ⟨hp, g, d, tk, os⟩ := s
    obtain ⟨h1, h⟩ := h
    have sub := sub_enumerate
    have begins : ∀ {A' : Around} {E : Value → Shared → Prop} {Q : Value → Shared → Prop}, Q (.ref hp.objs.size) ⟨hp.push o, g, d, tk, os⟩ → wpAny (model prog w) A' (pyIter v) Q E ⟨hp, g, d, tk, os⟩ :=
      fun q => B.iter prog w _ _ ⟨hp, g, d, tk, os⟩ _ h1 q
    wp_walk using begins
    refine wpAny_stack_any fun st => wpAny_pure ?_
    split
    · rename_i c _ _ _ _ _
      cases (c == Value.type "enumerate")
      · wp_walk using begins
        exact ⟨_, rfl, h⟩
      · wp_walk using begins
        exact ⟨_, rfl, h⟩
    · wp_walk using begins
      exact ⟨_, rfl, h⟩
section
variable {prog : Program} {w : World} {A : Around} {E : Value → Shared → Prop} {s : Shared}
theorem enum1_begins {v : Value} {o : Obj} {G : Heap → Prop} {Q : Value → Shared → Prop} (B : Begins v o G) (h1 : G s.heap)
    (q : ∀ h', IsEnum h' (s.heap.objs.size + 1) s.heap.objs.size 0 .none → h'.get? s.heap.objs.size = some o → (∀ b u, s.heap.get? b = some u → h'.get? b = some u) → Q (.ref (s.heap.objs.size + 1)) { s with heap := h' }) :
    wpAny (model prog w) A (call (.type "enumerate") [v]) Q E s := by
  refine callType_new F.called_enumerate (by decide) (F.typeCall_enumerate_1 _) (F.newCall_enumerate_1 _) (fun obj => F.args_object_init_2 obj _) F.entry_enumerate_new (meets_enum1 B) ⟨h1, ?_⟩
  have z : (s.heap.push o).objs.size = s.heap.objs.size + 1 := Heap.size_push ..
  show _ ∧ _
  rw [z]
  have he : IsEnum ((s.heap.push o).push { cls := .type "enumerate", data := .fields #[.none, .bool false, .ref s.heap.objs.size, rawInt 0, .none, .none] }) (s.heap.objs.size + 1) s.heap.objs.size 0 .none := by
    have t := Heap.get?_push_size (s.heap.push o) (o := { cls := .type "enumerate", data := .fields #[.none, .bool false, .ref s.heap.objs.size, rawInt 0, .none, .none] }) rfl
    rw [z] at t; exact t
  exact ⟨⟨_, he, rfl⟩, q _ he (Heap.get?_push_of_some _ (Heap.get?_push_size _ B.free)) fun b u x => Heap.get?_push_of_some _ (Heap.get?_push_of_some _ x)⟩
end
/-- the tuple at a, each item in a new pair with its place -/
def IteT (K : PySem.W.Frag) (a : Addr) : It :=
  ⟨fun i H => ∃ (xs : List V) (x : V), SqT K H a xs ∧ xs[i]? = some x, fun i H v H' => ∃ T x, v = .ref T ∧ H T = none ∧ H' = upd H T (.tup [.int (i : Nat), x]) ∧ ∀ xs, SqT K H a xs → xs[i]? = some x, fun i H => ∃ xs : List V, SqT K H a xs ∧ xs.length ≤ i⟩
theorem turn_enumT {P : Program} {w : World} {K : PySem.W.Frag} {elts : List Expr} {kk : Nat} {tpos : Pos} (a e it : Addr) :
    Turn P w K (.Tuple elts kk tpos) (IteT K a) [e, it] e (fun i h => (∃ old, IsEnum h e it ((i : Nat) : Int) old) ∧ h.IsTupleIter it a i ∧ e ≠ it ∧ a ≠ it ∧ e ≠ a) where
  mem := by simp
  obj := fun i h st b hb => by
    obtain ⟨⟨old, he⟩, ⟨o, ho, hc, hd⟩, _⟩ := st
    rcases (show b = e ∨ b = it by simpa using hb) with z | z
    · rw [z]; exact ⟨_, he, fun v q => nomatch q⟩
    · rw [z]; exact ⟨o, ho, fun v q => by rw [hd] at q; cases q⟩
  keep := fun i h h' st k => let ⟨⟨old, he⟩, hi, hne⟩ := st; ⟨⟨old, k e (by simp) _ he⟩, hi.at fun o q => k it (by simp) o q, hne⟩
  item := by
    intro X hP hw hK hc i pins s σ H E I hf st hg
    subst hP hw hK
    obtain ⟨⟨old, he⟩, hit, hne, hat, hea⟩ := st
    obtain ⟨xs, x, hq, hx⟩ := hg
    obtain ⟨its, rv, p, hz⟩ := I.tuple hq
    have len := rv.length
    have hi : i < its.length := by have := (List.getElem?_eq_some_iff.mp hx).1; omega
    have hel : e < s.heap.objs.size := Heap.lt_size he
    have hil : it < s.heap.objs.size := by obtain ⟨_, q, _⟩ := hit; exact Heap.lt_size q
    have D := Draws.tuple (prog := X.prog) (w := X.w) (A := X.A.in1) (I.ok.hd hc) it a hat its.toArray
    refine wpAny_pyNext_enum_itemC D he ⟨hit, p⟩ (by simpa using hi) hne (by simp [hne, hea]) fun y h' tk hy ho st' hT hsz hk => ?_
    refine ⟨_, rfl, wpAny_letOwnedTupleGo_enum (s := { s with heap := h', toks := tk + 1 }) ho fun h'' he' sb => ?_⟩
    have hT2 : h''.get? s.heap.objs.size = some { cls := .type "tuple", data := .seq #[.int i tk, y] } := (sb.2 _ (Nat.ne_of_gt hel)).trans hT
    obtain ⟨u, hu, ru⟩ := rv.get hx
    have ey : y = u := by
      have z : its[i]? = some y := by simpa using hy
      rw [hu] at z
      exact (Option.some.inj z).symm
    subst ey
    have new : ObjOk X.prog X.w (upd H s.heap.objs.size (.tup [.int (i : Nat), x])) h'' s.heap.objs.size (.tup [.int (i : Nat), x]) :=
      ⟨by show 2 ≤ sizeLine; decide, [.int i tk, y], .cons ⟨_, rfl⟩ (.cons ru .nil), ⟨_, hT2, rfl, _, rfl⟩⟩
    have I1 : Inv X pins σ (upd H s.heap.objs.size (.tup [.int (i : Nat), x])) { s with heap := h'', toks := tk + 1 } :=
      I.turnedNew (ch := [e, it]) (fun b ob hb q => (sb.2 b (fun z => hb (by simp [z]))).trans (hk b ob (fun z => hb (by simp [z])) (fun z => hb (by simp [z])) q)) hf (Nat.le_refl _) new
    refine ⟨.ref s.heap.objs.size, _, I1, rfl, ⟨_, x, rfl, I.hok.fresh (Nat.le_refl _), rfl, fun ys hy => by rw [I.tuple_inj hy hq]; exact hx⟩, ⟨⟨y, ?_⟩, st'.1.at fun o q => (sb.2 it (Ne.symm hne)).trans q, hne, hat, hea⟩, fun b hb => ?_⟩
    · have e1 : ((i + 1 : Nat) : Int) = (i : Int) + 1 := by omega
      rw [e1]; exact he'
    · have hb' : b < s.heap.objs.size := by
        rcases (show b = e ∨ b = it by simpa using hb) with z | z
        · rw [z]; exact hel
        · rw [z]; exact hil
      rw [upd_ne (Nat.ne_of_lt hb')]
      exact (hf b hb).1
  done := by
    intro X hP hw hK hc i pins s σ H E I hf st hg
    subst hP hw hK
    obtain ⟨⟨old, he⟩, hit, hne, hat, hea⟩ := st
    obtain ⟨xs, hq, hx⟩ := hg
    obtain ⟨its, rv, p, hz⟩ := I.tuple hq
    obtain ⟨f0, f1, f2, f3, f4, f5⟩ := hf it (by simp)
    have len := rv.length
    have D : Draws X.prog X.w X.A.in1 it [it, a] i (fun _ _ => True) (fun j h => j = i ∧ h.IsTupleIter it a i ∧ h.IsTuple a its.toArray) :=
      { live := fun _ _ st => let ⟨o, ho, _⟩ := st.2.1; ⟨o, ho⟩
        frame := fun _ _ _ st hk => ⟨st.1, st.2.1.at fun o e => hk it (by simp) o e, st.2.2.at fun o e => hk a (by simp) o e⟩
        item := fun j s Q E hj st _ => absurd st.1 (Nat.ne_of_lt hj)
        done := fun s Q E st hE => wpAny_nextOf_tuple_end (I.ok.hd hc) st.2.1 st.2.2 (by simp; omega) hE }
    exact wpAny_pyNext_enum_endD D he ⟨rfl, hit, p⟩ fun h' eb => ⟨rfl, I.turned (t' := s.toks) (fun b o hb q => eb b o hb q) f0 f1 f3 f4 f5⟩
  self := fun A i s Q E st h => let ⟨⟨_, he⟩, _⟩ := st; wpAny_pyIter_enum he h
def iEnumT (K : PySem.W.Frag) (ta : TA) : TI := fun σ H R => ta σ H fun vs H1 => ∃ a xs, vs = [.ref a] ∧ SqT K H1 a xs ∧ R (IteT K a) H1
theorem pi_enumT {X : Cx} {e : Expr} {ta : TA} {p pos tpos : Pos} {elts : List Expr} {kk : Nat} (hg : Gl X "enumerate") (hm : X.mg "enumerate" = none) (ha : PA X [e] ta) (hs : starEach [e] X.env = [(false, eval e X.env)] := by rfl) :
    PI X (.Tuple elts kk tpos) (.Call (.Name "enumerate" p) [e] [] pos) (iEnumT X.K ta) := by
  constructor
  intro pins s σ H R I h
  refine Call_ (ld_blt I hg hm boot_enumerate (PyProof.Rows.callWith_type1 (thn (ha.run pos pins s σ H _ I h) ?_) hs rfl))
  rintro us s1 ⟨vs, H1, I1, r1, a, xs, rfl, hq, q⟩
  cases r1 with
  | cons r rr =>
    cases rr
    cases r
    obtain ⟨its, rv, tu, hz⟩ := I1.tuple hq
    have al : a < s1.heap.objs.size := by obtain ⟨o, e, _⟩ := tu; exact Heap.lt_size e
    refine enum1_begins (begins_tuple a its.toArray) tu fun h' he hit hk => wpAny_pyIter_enum he ?_
    have I2 : Inv X pins σ H1 { s1 with heap := h' } := I1.kept (t' := s1.toks) hk
    refine ⟨s1.heap.objs.size + 1, [s1.heap.objs.size + 1, s1.heap.objs.size], _, _, H1, rfl, I2, turn_enumT a (s1.heap.objs.size + 1) s1.heap.objs.size, ⟨⟨.none, he⟩, ⟨_, hit, rfl, rfl⟩, Nat.succ_ne_self _, Nat.ne_of_lt al, (Nat.ne_of_lt (Nat.lt_succ_of_lt al)).symm⟩, fun b hb => ?_, q⟩
    have hle : s1.heap.objs.size ≤ b := by
      rcases (show b = s1.heap.objs.size + 1 ∨ b = s1.heap.objs.size by simpa using hb) with z | z
      · rw [z]; exact Nat.le_add_right _ _
      · rw [z]; exact Nat.le_refl _
    exact I1.fpOk hle (I1.hok.fresh hle)
theorem for_enumT {g : TG} {tb : TS} {D : Ends} {σ : L2.St} {H : Hp} {K : PySem.W.Frag} {a : Addr} {xs : List V} (Pv : Nat → L2.St → Hp → Prop) (h0 : Pv 0 σ H) (hl : ∀ i σ' H', i ≤ xs.length → Pv i σ' H' → SqT K H' a xs)
    (hs : ∀ i x σ' H' T, xs[i]? = some x → Pv i σ' H' → H' T = none → g (.ref T) σ' (upd H' T (.tup [.int (i : Nat), x])) fun σ2 H2 => tb { D with nx := Pv (i + 1), ct := Pv (i + 1), bk := D.nx } σ2 H2) (hd : ∀ σ' H', Pv xs.length σ' H' → D.nx σ' H') : forK g tb D σ (IteT K a) H := by
  refine ⟨fun i m σ H => i ≤ xs.length ∧ m = xs.length - i ∧ Pv i σ H, ⟨xs.length, Nat.zero_le _, by omega, h0⟩, ?_⟩
  rintro i m σ H ⟨hi, rfl, p⟩
  have hq := hl i σ H hi p
  rcases Nat.lt_or_ge i xs.length with h | h
  · refine Or.inr ⟨⟨xs, xs[i], hq, List.getElem?_eq_getElem h⟩, Pv (i + 1), fun σ' H' p' => ⟨xs.length - (i + 1), by omega, by omega, rfl, p'⟩, ?_⟩
    rintro v H' ⟨T, x, rfl, hT, rfl, hx⟩
    exact hs i x σ H T (hx xs hq) p hT
  · have e : i = xs.length := by omega
    subst e
    exact Or.inl ⟨⟨xs, hq, Nat.le_refl _⟩, hd σ H p⟩
end Mine
namespace Mine
open PySem PySem.Spec PyProof.Rows L2
open Evl (Ex)
structure FHeaps (K : PySem.W.Frag) : Prop where
  cl : Cls K (He.ga K "Heaps")
  na : NoAttr K (He.ga K "Heaps") "_sizes"
def hfs (t : Addr) : List (Str × V) := putF "_sizes" (.ref t) []
theorem hfs_get (t : Addr) : (hfs t).lookup ("_sizes" : Str) = some (.ref t) := by
  unfold hfs
  rw [lookup_putF, if_pos rfl]
theorem hfs_no (t : Addr) {m : Str} (h : ¬ m = "_sizes") : (hfs t).lookup m = none := by
  unfold hfs
  rw [lookup_putF, if_neg h]
  rfl
/-- a board of heaps -/
def HpAt (K : PySem.W.Frag) (H : Hp) (b : Addr) (ns : List Int) : Prop := ∃ dx t, H b = some (.ins (He.ga K "Heaps") dx (hfs t)) ∧ H t = some (.tup (ns.map V.int))
theorem HpAt.ex {K : PySem.W.Frag} {H H' : Hp} {b : Addr} {ns : List Int} (h : HpAt K H b ns) (e : Ex H H') : HpAt K H' b ns := let ⟨dx, t, h1, h2⟩ := h; ⟨dx, t, e _ _ h1, e _ _ h2⟩
def OkS (ns : List Int) : Prop := ns.length ≤ 8 ∧ ∀ z ∈ ns, 0 ≤ z ∧ z ≤ 30
end Mine
namespace Mine
open PySem PySem.Spec PyProof.Rows L2
open Evl (Ex)
/-- the sizes behind the moves, in order -/
def mvAt (ns : List Int) (i : Nat) : List (List Int) := (List.range (ns.getD i 0).toNat).map fun (j : Nat) => ns.take i ++ [(ns.getD i 0) - 1 - (j : Int)] ++ ns.drop (i + 1)
def mvs (ns : List Int) : List (List Int) := (List.range ns.length).flatMap (mvAt ns)
/-- boards of heaps of these sizes -/
def BsAt (K : PySem.W.Frag) (H : Hp) (xs : List V) (ss : List (List Int)) : Prop := xs.length = ss.length ∧ ∀ (i : Nat) (s : List Int), ss[i]? = some s → ∃ b, xs[i]? = some (.ref b) ∧ HpAt K H b s
theorem BsAt.ex {K : PySem.W.Frag} {H H' : Hp} {xs : List V} {ss : List (List Int)} (h : BsAt K H xs ss) (e : Ex H H') : BsAt K H' xs ss := ⟨h.1, fun i s q => let ⟨b, h1, h2⟩ := h.2 i s q; ⟨b, h1, h2.ex e⟩⟩
theorem BsAt.keep {K : PySem.W.Frag} {H H' : Hp} {xs : List V} {ss : List (List Int)} (h : BsAt K H xs ss) (k : ∀ c o, H c = some o → (∀ ys, o ≠ .lst ys) → H' c = some o) : BsAt K H' xs ss :=
  ⟨h.1, fun i s q => let ⟨b, h1, dx, t, h2, h3⟩ := h.2 i s q; ⟨b, h1, dx, t, k _ _ h2 (fun ys z => by cases z), k _ _ h3 (fun ys z => by cases z)⟩⟩
theorem BsAt.snoc {K : PySem.W.Frag} {H : Hp} {xs : List V} {ss : List (List Int)} {b : Addr} {s : List Int} (h : BsAt K H xs ss) (hb : HpAt K H b s) : BsAt K H (xs ++ [.ref b]) (ss ++ [s]) := by
  refine ⟨by rw [List.length_append, List.length_append, h.1]; rfl, fun i s' q => ?_⟩
  rcases Nat.lt_or_ge i ss.length with l | l
  · rw [List.getElem?_append_left l] at q
    obtain ⟨b', h1, h2⟩ := h.2 i s' q
    exact ⟨b', by rw [List.getElem?_append_left (by rw [h.1]; exact l)]; exact h1, h2⟩
  · have l2 := (List.getElem?_eq_some_iff.mp q).1
    rw [List.length_append, List.length_singleton] at l2
    have e : i = ss.length := by omega
    subst e
    rw [List.getElem?_append_right (Nat.le_refl _), Nat.sub_self] at q
    have e2 : s = s' := by injection q
    subst e2
    exact ⟨b, by rw [← h.1, List.getElem?_append_right (Nat.le_refl _), Nat.sub_self]; rfl, hb⟩
theorem okS_mv {ns : List Int} (ok : OkS ns) {i : Nat} (hi : i < ns.length) {j : Nat} (hj : j < (ns.getD i 0).toNat) : OkS (ns.take i ++ [(ns.getD i 0) - 1 - (j : Int)] ++ ns.drop (i + 1)) := by
  have hz : ns.getD i 0 ∈ ns := by
    rw [List.getD_eq_getElem?_getD, List.getElem?_eq_getElem hi]
    exact List.getElem_mem hi
  have bz := ok.2 _ hz
  refine ⟨?_, fun z m => ?_⟩
  · have := ok.1
    rw [List.length_append, List.length_append, List.length_take, List.length_drop, List.length_singleton]
    omega
  · rcases List.mem_append.mp m with m | m
    · rcases List.mem_append.mp m with m | m
      · exact ok.2 z (List.mem_of_mem_take m)
      · rw [List.mem_singleton.mp m]; omega
    · exact ok.2 z (List.mem_of_mem_drop m)
end Mine
namespace Mine
open PySem PySem.Spec PyProof.Rows L2
section
variable {σ : L2.St} {H : Hp} {K : PySem.W.Frag}
theorem k_star {te : TE} {t : TA} {Q : List V → Hp → Prop} (q : te σ H fun y H1 => ∃ a xs, y = V.ref a ∧ (SqT K H1 a xs ∨ SqL K H1 a xs) ∧ t σ H1 fun vs H2 => Q (xs ++ vs) H2) : StX.tStar K te t σ H Q := q
theorem k_enumT {ta : TA} {R : It → Hp → Prop} (q : ta σ H fun vs H1 => ∃ a xs, vs = [.ref a] ∧ SqT K H1 a xs ∧ R (IteT K a) H1) : iEnumT K ta σ H R := q
end
end Mine
namespace Mine
open PySem PySem.Spec PyProof.Rows L2
open Evl (Ex)
theorem k_slA {K : PySem.W.Frag} {H : Hp} {Q : VK} {a : Addr} {xs : List V} {lo hi : Option Int} (h : SqT K H a xs) (q : ∀ p H', Ex H H' → SqT K H' p (cutV xs lo hi) → Q (.ref p) H') : rSlA K (.ref a) lo hi H Q := by
  refine ⟨a, xs, rfl, h, fun w => q a H (Evl.Ex.refl H) ?_, fun _ p n => q p _ (Evl.Ex.new n) (k_st upd_same)⟩
  have e : cutV xs lo hi = xs := by
    unfold cutV
    rw [w.1, w.2, List.drop_zero, Nat.sub_zero, List.take_of_length_le (Nat.le_refl _)]
  rw [e]; exact h
theorem cut_to {ns : List Int} {i : Nat} (h : i ≤ ns.length) : cutV (ns.map V.int) none (some (i : Int)) = (ns.take i).map V.int := by
  unfold cutV
  rw [HT.sIx_none, HT.sIx_nat, List.length_map, Nat.min_eq_left h, List.drop_zero, Nat.sub_zero, List.map_take]
theorem cut_on {ns : List Int} {i : Nat} (h : i ≤ ns.length) : cutV (ns.map V.int) (some (i : Int)) none = (ns.drop i).map V.int := by
  unfold cutV
  rw [HT.sIx_none, HT.sIx_nat, List.length_map, Nat.min_eq_left h, List.take_of_length_le (by rw [List.length_drop, List.length_map]; exact Nat.le_refl _), List.map_drop]
end Mine
namespace Mine
open PySem PySem.Spec PyProof.Rows L2
open Evl (Ex)
theorem k_slH {K : PySem.W.Frag} {H : Hp} {Q : VK} {a : Addr} {xs : List V} {lo hi : Option Int} (h : H a = some (.tup xs)) (q : ∀ p H', Ex H H' → H' p = some (.tup (cutV xs lo hi)) → Q (.ref p) H') : rSlA K (.ref a) lo hi H Q := by
  refine ⟨a, xs, rfl, k_st h, fun w => q a H (Evl.Ex.refl H) ?_, fun _ p n => q p _ (Evl.Ex.new n) upd_same⟩
  have e : cutV xs lo hi = xs := by
    unfold cutV
    rw [w.1, w.2, List.drop_zero, Nat.sub_zero, List.take_of_length_le (Nat.le_refl _)]
  rw [e]; exact h
theorem k_catH {K : PySem.W.Frag} {H : Hp} {Q : VK} {a b : Addr} {xs ys : List V} (h1 : H a = some (.tup xs)) (h2 : H b = some (.tup ys)) (l : xs.length + ys.length ≤ sizeLine) (q : ∀ p H', Ex H H' → H' p = some (.tup (xs ++ ys)) → Q (.ref p) H') : rCatA K (.ref a) (.ref b) H Q :=
  ⟨a, b, xs, ys, rfl, rfl, k_st h1, k_st h2, l, fun e => q b H (Evl.Ex.refl H) (by rw [e]; exact h2), fun _ e => q a H (Evl.Ex.refl H) (by rw [e, List.append_nil]; exact h1), fun _ _ p n => q p _ (Evl.Ex.new n) upd_same⟩
/-- the pairs that are due -/
def DuP (H : Hp) (d : Addr) (s : List Int) : Prop := ∃ u, H d = some (.tup [.str "heaps", .ref u]) ∧ H u = some (.tup (s.map V.int))
theorem DuP.ex {H H' : Hp} {d : Addr} {s : List Int} (h : DuP H d s) (e : Ex H H') : DuP H' d s := let ⟨u, h1, h2⟩ := h; ⟨u, e _ _ h1, e _ _ h2⟩
def DsAt (H : Hp) (xs : List V) (ss : List (List Int)) : Prop := xs.length = ss.length ∧ ∀ (i : Nat) (s : List Int), ss[i]? = some s → ∃ b, xs[i]? = some (.ref b) ∧ DuP H b s
theorem DsAt.ex {H H' : Hp} {xs : List V} {ss : List (List Int)} (h : DsAt H xs ss) (e : Ex H H') : DsAt H' xs ss := ⟨h.1, fun i s q => let ⟨b, h1, h2⟩ := h.2 i s q; ⟨b, h1, h2.ex e⟩⟩
theorem DsAt.keep {H H' : Hp} {xs : List V} {ss : List (List Int)} (h : DsAt H xs ss) (k : ∀ c o, H c = some o → (∀ ys, o ≠ .lst ys) → H' c = some o) : DsAt H' xs ss :=
  ⟨h.1, fun i s q => let ⟨b, h1, u, h2, h3⟩ := h.2 i s q; ⟨b, h1, u, k _ _ h2 (fun ys z => by cases z), k _ _ h3 (fun ys z => by cases z)⟩⟩
theorem DsAt.snoc {H : Hp} {xs : List V} {ss : List (List Int)} {b : Addr} {s : List Int} (h : DsAt H xs ss) (hb : DuP H b s) : DsAt H (xs ++ [.ref b]) (ss ++ [s]) := by
  refine ⟨by rw [List.length_append, List.length_append, h.1]; rfl, fun i s' q => ?_⟩
  rcases Nat.lt_or_ge i ss.length with l | l
  · rw [List.getElem?_append_left l] at q
    obtain ⟨b', h1, h2⟩ := h.2 i s' q
    exact ⟨b', by rw [List.getElem?_append_left (by rw [h.1]; exact l)]; exact h1, h2⟩
  · have l2 := (List.getElem?_eq_some_iff.mp q).1
    rw [List.length_append, List.length_singleton] at l2
    have e : i = ss.length := by omega
    subst e
    rw [List.getElem?_append_right (Nat.le_refl _), Nat.sub_self] at q
    have e2 : s = s' := by injection q
    subst e2
    exact ⟨b, by rw [← h.1, List.getElem?_append_right (Nat.le_refl _), Nat.sub_self]; rfl, hb⟩
end Mine
namespace Mine
open PySem PySem.Spec PyProof.Rows L2
open Evl (Ex)
/-- a new object, by the name of the heap that holds it -/
theorem upd_ex {H : Hp} {p : Addr} {o : HO} (np : H p = none) : ∃ H', upd H p o = H' ∧ Ex H H' ∧ H' p = some o := ⟨_, rfl, Evl.Ex.new np, upd_same⟩
theorem nx {H H' : Hp} {p : Addr} {o : HO} (np : H p = none) (h : upd H p o = H') : Ex H H' := h ▸ Evl.Ex.new np
theorem nS {H H' : Hp} {p : Addr} {o : HO} (h : upd H p o = H') : H' p = some o := h ▸ upd_same
section
variable {H : Hp} {K : PySem.W.Frag} {Q : VK}
theorem n_sl {a : Addr} {xs : List V} {lo hi : Option Int} (h : SqL K H a xs) (q : ∀ p H', H p = none → Ex H H' → H' p = some (.lst (cutV xs lo hi)) → Q (.ref p) H') : rSlL K (.ref a) lo hi H Q :=
  k_slL h fun p np => q p _ np (Evl.Ex.new np) upd_same
theorem n_cat {a b : Addr} {xs ys : List V} (h1 : H a = some (.lst xs)) (h2 : H b = some (.lst ys)) (l : xs.length + ys.length ≤ sizeLine) (q : ∀ p H', H p = none → Ex H H' → H' p = some (.lst (xs ++ ys)) → Q (.ref p) H') : rCat (.ref a) (.ref b) H Q :=
  k_rCat h1 h2 l fun p np => q p _ np (Evl.Ex.new np) upd_same
theorem n_rep {a : Addr} {k : Int} {xs : List V} (h : H a = some (.lst xs)) (b1 : -(2 ^ 63) ≤ k) (b2 : k < 2 ^ 63) (l : xs.length * k.toNat ≤ sizeLine) (q : ∀ p H', H p = none → Ex H H' → H' p = some (.lst (List.replicate k.toNat xs).flatten) → Q (.ref p) H') : rRep (.ref a) (.int k) H Q :=
  ⟨a, k, xs, rfl, rfl, h, b1, b2, l, fun p np => q p _ np (Evl.Ex.new np) upd_same⟩
theorem n_tupL {a : Addr} {xs : List V} (h : SqL K H a xs) (q : ∀ p H', H p = none → Ex H H' → H' p = some (.tup xs) → Q (.ref p) H') : rTupL K [.ref a] H Q :=
  k_rTupL h fun p np => q p _ np (Evl.Ex.new np) upd_same
theorem n_listL {a : Addr} {xs : List V} (h : SqL K H a xs) (q : ∀ p H', H p = none → Ex H H' → H' p = some (.lst xs) → Q (.ref p) H') : rListQ K [.ref a] H Q :=
  k_rListL h fun p np => q p _ np (Evl.Ex.new np) upd_same
theorem n_listT {a : Addr} {xs : List V} (h : SqT K H a xs) (q : ∀ p H', H p = none → Ex H H' → H' p = some (.lst xs) → Q (.ref p) H') : rListQ K [.ref a] H Q :=
  k_rListT h fun p np => q p _ np (Evl.Ex.new np) upd_same
theorem fits {n : Nat} (h : n ≤ 3000) : n ≤ sizeLine := Nat.le_trans h (by decide)
theorem fits' {n : Nat} (h : n ≤ 3000) : n < sizeLine := Nat.lt_of_le_of_lt h (by decide)
end
theorem cut_cut {xs : List V} {i : Nat} (h : i ≤ xs.length) : cutV xs none (some (i : Int)) = xs.take i := by
  unfold cutV
  rw [HT.sIx_none, HT.sIx_nat, Nat.min_eq_left h, List.drop_zero, Nat.sub_zero]
theorem cut_all {xs : List V} {i : Nat} (h : xs.length ≤ i) : cutV xs none (some (i : Int)) = xs := by
  unfold cutV
  rw [HT.sIx_none, HT.sIx_nat, Nat.min_eq_right h, List.drop_zero, Nat.sub_zero, List.take_of_length_le (Nat.le_refl _)]
theorem cut_min {xs : List V} {i : Nat} : cutV xs none (some (i : Int)) = xs.take i := by
  rcases Nat.le_total i xs.length with h | h
  · exact cut_cut h
  · rw [cut_all h, List.take_of_length_le h]
theorem cut_off {xs : List V} {i : Nat} (h : i ≤ xs.length) : cutV xs (some (i : Int)) none = xs.drop i := by
  unfold cutV
  rw [HT.sIx_none, HT.sIx_nat, Nat.min_eq_left h, List.take_of_length_le (by rw [List.length_drop]; exact Nat.le_refl _)]
end Mine
namespace Mine
open PySem PySem.Spec PyProof.Rows L2
open Evl (Ex)
/-- one turn makes an item with a property -/
def turnQ (g : TG) (tt : TT) (te : TE) (vs : List Nat) (σ : L2.St) (x : V) (P : V → Hp → Prop) (H1 : Hp) : Prop := ∀ H', Ex H1 H' → ∀ R : Option V → Hp → Prop, (∀ y H'', Ex H' H'' → P y H'' → R (some y) H'') →
  g x (wipe σ vs) H' fun σ2 H2 => wipe σ2 vs = wipe σ vs ∧ tt σ2 H2 fun b H3 => if b = true then te σ2 H3 fun y H4 => R (some y) H4 else R none H3
/-- what holds of an item while nothing but lists changes -/
def Lasts (P : V → V → Hp → Prop) : Prop := ∀ (x y : V) (H H' : Hp), P x y H → (∀ c o, H c = some o → (∀ ys, o ≠ .lst ys) → H' c = some o) → P x y H'
section
variable {g : TG} {tt : TT} {te : TE} {vs : List Nat} {σ : L2.St} {Q : VK} {H1 : Hp} {K : PySem.W.Frag}
theorem turnQ_in {x : V} {P : V → Hp → Prop} {D : Addr} {acc : List V} {H : Hp} {Nx : Hp → Prop} (t : turnQ g tt te vs σ x P H1) (e : Ex H1 H) (hD : H1 D = none) (a : H D = some (.lst acc)) (len : acc.length < sizeLine)
    (nx : ∀ y H2 H', Ex H H2 → P y H2 → Ex H1 H' → H' D = some (.lst (acc ++ [y])) → (∀ c o, H2 c = some o → (∀ ys, o ≠ .lst ys) → H' c = some o) → Nx H') :
    g x (wipe σ vs) H fun σ2 H2 => wipe σ2 vs = wipe σ vs ∧ tt σ2 H2 fun b H3 => if b = true then te σ2 H3 fun y H4 => ∃ acc, H4 D = some (.lst acc) ∧ acc.length < sizeLine ∧ Nx (upd H4 D (.lst (acc ++ [y]))) else Nx H3 := by
  have no : ∀ o' : Option V, o' = none → ∀ H4 : Hp, True := fun _ _ _ => trivial
  refine (fun z => ?_) (t H e (fun o' H4 => match o' with | some y => ∃ acc, H4 D = some (.lst acc) ∧ acc.length < sizeLine ∧ Nx (upd H4 D (.lst (acc ++ [y]))) | none => Nx H4) fun y H'' e2 p => ?_)
  · exact z
  · refine ⟨acc, e2 _ _ a, len, nx y H'' _ e2 p (Evl.Ex.mut (e.trans e2) hD) upd_same fun c o q n => (upd_ne fun z => ?_).trans q⟩
    rw [z, e2 _ _ a] at q
    exact n _ (Option.some.inj q).symm
theorem lcQ_tup {a : Addr} {xs : List V} (P : V → V → Hp → Prop) (La : Lasts P) (hS : SqT K H1 a xs) (len : xs.length < sizeLine) (t : ∀ (i : Nat) (x : V), xs[i]? = some x → turnQ g tt te vs σ x (P x) H1)
    (q : ∀ D ys H', H1 D = none → Ex H1 H' → H' D = some (.lst ys) → ys.length = xs.length → (∀ (i : Nat) (x : V), xs[i]? = some x → ∃ y, ys[i]? = some y ∧ P x y H') → Q (.ref D) H') : lcR g tt te vs σ Q (Itt K a) H1 := by
  intro D hD
  refine lc_tup (K := K) (a := a) (xs := xs) (fun i H => ∃ ys, Ex H1 H ∧ H D = some (.lst ys) ∧ ys.length = i ∧ ∀ (j : Nat) (x : V), j < i → xs[j]? = some x → ∃ y, ys[j]? = some y ∧ P x y H) ⟨[], Evl.Ex.new hD, upd_same, rfl, fun j x h => absurd h (Nat.not_lt_zero _)⟩ (fun i H _ ⟨_, e, _⟩ => Evl.ex_t e hS) (fun i x H hx p => ?_) (fun H p => ?_)
  · obtain ⟨ys, e, hd, yl, ok⟩ := p
    have hi := (List.getElem?_eq_some_iff.mp hx).1
    refine turnQ_in (t i x hx) e hD hd (by omega) fun y H2 H' e2 py e' hd' kp => ⟨ys ++ [y], e', hd', by rw [List.length_append, yl]; rfl, fun j x' hj hx' => ?_⟩
    rcases Nat.lt_or_ge j i with l | l
    · obtain ⟨y', h1, h2⟩ := ok j x' l hx'
      exact ⟨y', by rw [List.getElem?_append_left (by omega)]; exact h1, La _ _ _ _ h2 fun c o q n => kp c o (e2 _ _ q) n⟩
    · have ej : j = i := by omega
      subst ej
      rw [hx] at hx'
      injection hx' with hx'
      subst hx'
      exact ⟨y, by rw [← yl, List.getElem?_append_right (Nat.le_refl _), Nat.sub_self]; rfl, La _ _ _ _ py kp⟩
  · obtain ⟨ys, e, hd, yl, ok⟩ := p
    exact q D ys H hD e hd yl fun i x hx => ok i x (List.getElem?_eq_some_iff.mp hx).1 hx
theorem lcQ_list {a : Addr} {xs : List V} (P : V → V → Hp → Prop) (La : Lasts P) (hS : SqL K H1 a xs) (len : xs.length < sizeLine) (t : ∀ (i : Nat) (x : V), xs[i]? = some x → turnQ g tt te vs σ x (P x) H1)
    (q : ∀ D ys H', H1 D = none → Ex H1 H' → H' D = some (.lst ys) → ys.length = xs.length → (∀ (i : Nat) (x : V), xs[i]? = some x → ∃ y, ys[i]? = some y ∧ P x y H') → Q (.ref D) H') : lcR g tt te vs σ Q (Itl K a) H1 := by
  intro D hD
  refine lc_list (K := K) (a := a) (xs := xs) (fun i H => ∃ ys, Ex H1 H ∧ H D = some (.lst ys) ∧ ys.length = i ∧ ∀ (j : Nat) (x : V), j < i → xs[j]? = some x → ∃ y, ys[j]? = some y ∧ P x y H) ⟨[], Evl.Ex.new hD, upd_same, rfl, fun j x h => absurd h (Nat.not_lt_zero _)⟩ (fun i H _ ⟨_, e, _⟩ => Evl.ex_l e hS) (fun i x H hx p => ?_) (fun H p => ?_)
  · obtain ⟨ys, e, hd, yl, ok⟩ := p
    have hi := (List.getElem?_eq_some_iff.mp hx).1
    refine turnQ_in (t i x hx) e hD hd (by omega) fun y H2 H' e2 py e' hd' kp => ⟨ys ++ [y], e', hd', by rw [List.length_append, yl]; rfl, fun j x' hj hx' => ?_⟩
    rcases Nat.lt_or_ge j i with l | l
    · obtain ⟨y', h1, h2⟩ := ok j x' l hx'
      exact ⟨y', by rw [List.getElem?_append_left (by omega)]; exact h1, La _ _ _ _ h2 fun c o q n => kp c o (e2 _ _ q) n⟩
    · have ej : j = i := by omega
      subst ej
      rw [hx] at hx'
      injection hx' with hx'
      subst hx'
      exact ⟨y, by rw [← yl, List.getElem?_append_right (Nat.le_refl _), Nat.sub_self]; rfl, La _ _ _ _ py kp⟩
  · obtain ⟨ys, e, hd, yl, ok⟩ := p
    exact q D ys H hD e hd yl fun i x hx => ok i x (List.getElem?_eq_some_iff.mp hx).1 hx
/-- a plain item: no test, one name -/
theorem turnQ_map {i : Nat} {x : V} {P : V → Hp → Prop} (h : ∀ H', Ex H1 H' → ∀ R : VK, (∀ y H'', Ex H' H'' → P y H'' → R y H'') → te ((wipe σ [i]).set i (some x)) H' R) (w : wipe ((wipe σ [i]).set i (some x)) [i] = wipe σ [i] := by rfl) : turnQ (gName i) tYes te [i] σ x P H1 :=
  fun H' e R r => ⟨w, h H' e _ fun y H'' e2 p => r y H'' e2 p⟩
end
end Mine
namespace Mine
open PySem PySem.Spec PyProof.Rows L2
open Evl (Ex)
section
variable {g : TG} {tt : TT} {te : TE} {vs : List Nat} {σ : L2.St} {Q : VK} {H1 : Hp} {K : PySem.W.Frag}
theorem lcQ_rng {lo : Int} {n : Nat} (P : Nat → V → Hp → Prop) (La : ∀ (i : Nat) (y : V) (H H' : Hp), P i y H → (∀ c o, H c = some o → (∀ ys, o ≠ .lst ys) → H' c = some o) → P i y H') (len : n < sizeLine) (t : ∀ i, i < n → turnQ g tt te vs σ (.int (lo + (i : Int))) (P i) H1)
    (q : ∀ D ys H', H1 D = none → Ex H1 H' → H' D = some (.lst ys) → ys.length = n → (∀ (i : Nat), i < n → ∃ y, ys[i]? = some y ∧ P i y H') → Q (.ref D) H') : lcR g tt te vs σ Q (Itr lo n) H1 := by
  intro D hD
  refine lc_range (lo := lo) (n := n) (fun i H => ∃ ys, Ex H1 H ∧ H D = some (.lst ys) ∧ ys.length = i ∧ ∀ (j : Nat), j < i → ∃ y, ys[j]? = some y ∧ P j y H) ⟨[], Evl.Ex.new hD, upd_same, rfl, fun j h => absurd h (Nat.not_lt_zero _)⟩ (fun i H hi p => ?_) (fun H p => ?_)
  · obtain ⟨ys, e, hd, yl, ok⟩ := p
    refine turnQ_in (t i hi) e hD hd (by omega) fun y H2 H' e2 py e' hd' kp => ⟨ys ++ [y], e', hd', by rw [List.length_append, yl]; rfl, fun j hj => ?_⟩
    rcases Nat.lt_or_ge j i with l | l
    · obtain ⟨y', h1, h2⟩ := ok j l
      exact ⟨y', by rw [List.getElem?_append_left (by omega)]; exact h1, La _ _ _ _ h2 fun c o q n => kp c o (e2 _ _ q) n⟩
    · have ej : j = i := by omega
      subst ej
      exact ⟨y, by rw [← yl, List.getElem?_append_right (Nat.le_refl _), Nat.sub_self]; rfl, La _ _ _ _ py kp⟩
  · obtain ⟨ys, e, hd, yl, ok⟩ := p
    exact q D ys H hD e hd yl ok
end
end Mine
namespace Mine
open PySem PySem.Spec PyProof.Rows L2
open Evl (Ex)
/-! a law's own list of forms: refs to pairs of lists of ints -/
/-- all but the addresses of Z stays -/
def Keep (Z : Addr → Prop) (H H' : Hp) : Prop := ∀ c o, H c = some o → ¬ Z c → H' c = some o
theorem Keep.of {Z : Addr → Prop} {H H' : Hp} (e : Ex H H') : Keep Z H H' := fun c o h _ => e c o h
theorem Keep.trans {Z : Addr → Prop} {H H1 H2 : Hp} (a : Keep Z H H1) (b : Keep Z H1 H2) : Keep Z H H2 := fun c o h n => b c o (a c o h n) n
def FormAt (Z : Addr → Prop) (H : Hp) (a : Addr) (g : Pr) : Prop := ∃ c d, H a = some (.tup [.ref c, .ref d]) ∧ H c = some (.lst (g.1.map V.int)) ∧ H d = some (.lst (g.2.map V.int)) ∧ ¬ Z c ∧ ¬ Z d
def FormsAt (Z : Addr → Prop) (H : Hp) (xs : List V) (G : List Pr) : Prop := xs.length = G.length ∧ ∀ (i : Nat) (g : Pr), G[i]? = some g → ∃ a, xs[i]? = some (.ref a) ∧ FormAt Z H a g
def ModAt (Z : Addr → Prop) (H : Hp) (m : Addr) (G : List Pr) : Prop := ∃ xs, H m = some (.lst xs) ∧ FormsAt Z H xs G
theorem FormAt.keep {Z : Addr → Prop} {H H' : Hp} {a : Addr} {g : Pr} (f : FormAt Z H a g) (k : Keep Z H H') (t : ∀ c ys, H c = some (.tup ys) → H' c = some (.tup ys)) : FormAt Z H' a g :=
  let ⟨c, d, h1, h2, h3, z1, z2⟩ := f
  ⟨c, d, t _ _ h1, k _ _ h2 z1, k _ _ h3 z2, z1, z2⟩
theorem FormsAt.keep {Z : Addr → Prop} {H H' : Hp} {xs : List V} {G : List Pr} (f : FormsAt Z H xs G) (k : Keep Z H H') (t : ∀ c ys, H c = some (.tup ys) → H' c = some (.tup ys)) : FormsAt Z H' xs G :=
  ⟨f.1, fun i g h => let ⟨a, h1, h2⟩ := f.2 i g h; ⟨a, h1, h2.keep k t⟩⟩
theorem FormsAt.ex {Z : Addr → Prop} {H H' : Hp} {xs : List V} {G : List Pr} (f : FormsAt Z H xs G) (e : Ex H H') : FormsAt Z H' xs G := f.keep (Keep.of e) fun c ys h => e _ _ h
theorem ModAt.up {Z : Addr → Prop} {H H' : Hp} {m : Addr} {G : List Pr} (f : ModAt Z H m G) (e : Ex H H') : ModAt Z H' m G := let ⟨xs, h1, h2⟩ := f; ⟨xs, e _ _ h1, h2.ex e⟩
/-- data of a form -/
def formD (g : Pr) : PyData := .tuple [.list (g.1.map .int), .list (g.2.map .int)]
theorem dp_ints {K : PySem.W.Frag} {H : Hp} : ∀ ns : List Int, DpAll K H (ns.map V.int) (ns.map .int)
  | [] => .nil
  | x :: xs => .cons (.int x) (dp_ints xs)
theorem FormAt.dp {K : PySem.W.Frag} {Z : Addr → Prop} {H : Hp} {a : Addr} {g : Pr} (f : FormAt Z H a g) : Dp K H (.ref a) (formD g) :=
  let ⟨c, d, h1, h2, h3, _⟩ := f
  .tup (k_st h1) (.cons (.lst (k_sq h2) (dp_ints _)) (.cons (.lst (k_sq h3) (dp_ints _)) .nil))
theorem eqv_form (g h : Pr) : PyData.eqv (formD g) (formD h) = decide (g = h) := by
  unfold formD
  simp only [PyData.eqv, PyData.eqvAll, PySem.W.ked_eqvAll]
  obtain ⟨a, b⟩ := g
  obtain ⟨c, d⟩ := h
  by_cases h1 : a = c <;> by_cases h2 : b = d <;> simp [h1, h2]
theorem lay_ints : ∀ ns : List Int, PyData.canLayAll0 (ns.map .int) = true
  | [] => rfl
  | x :: xs => by
    simp only [List.map_cons, PyData.canLayAll0, PyData.canLay0, lay_ints xs]
    rfl
theorem deep_ints : ∀ ns : List Int, PyData.depthAll (ns.map .int) = 0
  | [] => by simp only [List.map_nil, PyData.depthAll]
  | x :: xs => by simp only [List.map_cons, PyData.depthAll, PyData.depth, deep_ints xs]; rfl
theorem shaped_form (g : Pr) : SeqAt.shaped (formD g) = true := by
  unfold formD SeqAt.shaped
  simp only [PyData.canLay0, PyData.depth, PyData.canLayAll0, PyData.depthAll, lay_ints, deep_ints]
  rfl
theorem shaped_ints (ns : List Int) : SeqAt.shaped (.list (ns.map .int)) = true := by
  unfold SeqAt.shaped
  simp only [PyData.canLay0, PyData.depth, lay_ints, deep_ints]
  rfl
theorem eqv_ints (a b : List Int) : PyData.eqv (.list (a.map .int)) (.list (b.map .int)) = decide (a = b) := by
  simp only [PyData.eqv, PySem.W.ked_eqvAll]
/-- a list of two lists of ints -/
def twoD (g : Pr) : PyData := .list [.list (g.1.map .int), .list (g.2.map .int)]
theorem eqv_two (g h : Pr) : PyData.eqv (twoD g) (twoD h) = decide (g = h) := by
  unfold twoD
  simp only [PyData.eqv, PyData.eqvAll, PySem.W.ked_eqvAll]
  obtain ⟨a, b⟩ := g
  obtain ⟨c, d⟩ := h
  by_cases h1 : a = c <;> by_cases h2 : b = d <;> simp [h1, h2]
theorem shaped_two (g : Pr) : SeqAt.shaped (twoD g) = true := by
  unfold twoD SeqAt.shaped
  simp only [PyData.canLay0, PyData.depth, PyData.canLayAll0, PyData.depthAll, lay_ints, deep_ints]
  rfl
section
variable {K : PySem.W.Frag} {H : Hp} {Q : VK}
theorem k_eqF {Z Z' : Addr → Prop} {a b : Addr} {g h : Pr} (f1 : FormAt Z H a g) (f2 : FormAt Z' H b h) (q : Q (.bl (decide (g = h))) H) : rEqD K (.ref a) (.ref b) H Q :=
  ⟨formD g, formD h, f1.dp, f2.dp, shaped_form g, shaped_form h, by rw [eqv_form]; exact q⟩
theorem k_eqIs {a b : Addr} {g h : List Int} (f1 : SqL K H a (g.map V.int)) (f2 : SqL K H b (h.map V.int)) (q : Q (.bl (decide (g = h))) H) : rEqD K (.ref a) (.ref b) H Q :=
  ⟨_, _, .lst f1 (dp_ints g), .lst f2 (dp_ints h), shaped_ints g, shaped_ints h, by rw [eqv_ints]; exact q⟩
theorem k_neTwo {a b c d e f : Addr} {g h : Pr} (f1 : SqL K H a [.ref c, .ref d]) (f2 : SqL K H b [.ref e, .ref f]) (hc : SqL K H c (g.1.map V.int)) (hd : SqL K H d (g.2.map V.int)) (he : SqL K H e (h.1.map V.int)) (hf : SqL K H f (h.2.map V.int))
    (q : Q (.bl (!decide (g = h))) H) : rNeD K (.ref a) (.ref b) H Q :=
  ⟨twoD g, twoD h, .lst f1 (.cons (.lst hc (dp_ints _)) (.cons (.lst hd (dp_ints _)) .nil)), .lst f2 (.cons (.lst he (dp_ints _)) (.cons (.lst hf (dp_ints _)) .nil)), shaped_two g, shaped_two h, by rw [eqv_two]; exact q⟩
end
section
variable {g : TG} {tt : TT} {te : TE} {vs : List Nat} {σ : L2.St} {Q : VK} {H1 : Hp} {K : PySem.W.Frag} {wi : TI}
theorem turn_flt {i : Nat} {x : V} {b : Bool} (h : ∀ H', Ex H1 H' → ∀ R : Bool → Hp → Prop, R b H' → tt ((wipe σ [i]).set i (some x)) H' R) (w : wipe ((wipe σ [i]).set i (some x)) [i] = wipe σ [i] := by rfl) (v : ((wipe σ [i]).set i (some x))[i]? = some (some x) := by rfl) :
    turnR (gName i) tt (tVar i) [i] σ x (if b = true then some x else none) H1 :=
  fun H' e R r => ⟨w, h H' e _ (by
    cases b
    · exact r H' (Evl.Ex.refl _)
    · exact ⟨x, v, r H' (Evl.Ex.refl _)⟩)⟩
/-- the members of a range that a test keeps -/
def kept (n : Nat) (p : Nat → Bool) : List Int := ((List.range n).filter p).map fun i : Nat => (i : Int)
theorem kept_map (n : Nat) (p : Nat → Bool) : (List.range n).filterMap (fun i => if p i = true then some (V.int (i : Int)) else none) = (kept n p).map V.int := by
  unfold kept
  induction (List.range n) with
  | nil => rfl
  | cons x xs ih =>
    rw [List.filterMap_cons, List.filter_cons]
    by_cases h : p x = true
    · rw [if_pos h, if_pos h, List.map_cons, List.map_cons, ← ih]
    · rw [if_neg h, if_neg h, ← ih]
theorem mem_kept {n : Nat} {p : Nat → Bool} {x : Int} : x ∈ kept n p ↔ ∃ i : Nat, x = i ∧ i < n ∧ p i = true := by
  unfold kept
  rw [List.mem_map]
  constructor
  · rintro ⟨i, h, rfl⟩
    rw [List.mem_filter, List.mem_range] at h
    exact ⟨i, rfl, h.1, h.2⟩
  · rintro ⟨i, rfl, h1, h2⟩
    exact ⟨i, by rw [List.mem_filter, List.mem_range]; exact ⟨h1, h2⟩, rfl⟩
theorem kept_asc (n : Nat) (p : Nat → Bool) : Asc n (kept n p) := by
  refine ⟨?_, fun x m => ?_⟩
  · unfold kept
    rw [List.pairwise_map]
    refine List.Pairwise.imp (fun h => Int.ofNat_lt.mpr h) (List.Pairwise.filter p ?_)
    first | exact List.pairwise_lt_range | exact List.pairwise_lt_range _
  · obtain ⟨i, rfl, h, _⟩ := mem_kept.mp m
    omega
theorem cut_ints (ls : List Int) (lo hi : Option Int) : ∃ l' : List Int, cutV (ls.map V.int) lo hi = l'.map V.int ∧ (∀ x ∈ l', x ∈ ls) ∧ l'.length ≤ ls.length := by
  unfold cutV
  refine ⟨(ls.drop _).take _, by rw [List.map_take, List.map_drop], fun x m => List.mem_of_mem_drop (List.mem_of_mem_take m), ?_⟩
  rw [List.length_take, List.length_drop]
  omega
theorem cut_last {ls : List Int} (h : ls ≠ []) : ∃ l' : List Int, cutV (ls.map V.int) (some (-3)) none = l'.map V.int ∧ (∀ x ∈ l', x ∈ ls) ∧ l' ≠ [] := by
  refine ⟨(ls.drop _).take _, by unfold cutV; rw [List.map_take, List.map_drop], fun x m => List.mem_of_mem_drop (List.mem_of_mem_take m), fun e => ?_⟩
  have hl : 0 < ls.length := List.length_pos_iff.mpr h
  have z := congrArg List.length e
  rw [List.length_take, List.length_drop, List.length_map, HT.sIx_none] at z
  have s : HT.sIx ls.length 0 (some (-3)) = (-3 + (ls.length : Int)).toNat := by
    show (if (-3 : Int) < 0 then (-3 + (ls.length : Int)).toNat else min (-3 : Int).toNat ls.length) = _
    rw [if_pos (by decide)]
  rw [s, List.length_nil] at z
  omega
theorem rng_map (n : Nat) (f : Nat → Int) : (List.range n).filterMap (fun i => some (V.int (f i))) = ((List.range n).map f).map V.int := by
  induction (List.range n) with
  | nil => rfl
  | cons x xs ih => rw [List.filterMap_cons, List.map_cons, List.map_cons, ← ih]
theorem atI_in {ls : List Int} {k : Int} (h0 : 0 ≤ k) (h1 : k < ls.length) : ∃ z, z ∈ ls ∧ atI (ls.map V.int) k = some (.int z) ∧ z = ls.getD k.toNat 0 := by
  obtain ⟨z, hz, e⟩ := at_int h0 h1
  exact ⟨z, List.mem_of_getElem? hz, e, by rw [List.getD_eq_getElem?_getD, hz]; rfl⟩
end
theorem dg_of {ds : List Int} (hd : ∀ d ∈ ds, 0 ≤ d ∧ d < 60) {k : Int} (h0 : 0 ≤ k) (hk : k < ds.length) : ∃ z, atI (ds.map V.int) k = some (.int z) ∧ (0 ≤ z ∧ z < 60) ∧ z = ds.getD k.toNat 0 := by
  obtain ⟨z, m, e, f⟩ := atI_in h0 hk
  exact ⟨z, e, hd z m, f⟩
/-- the height that a law reckons of a new game -/
def HgtL (G : List Pr) (hs : List Int) (p : Pr) (hs' : List Int) : Prop := (p ∈ G ∧ hs' = hs) ∨ (p ∉ G ∧ ∃ m, hs' = hs ++ [m] ∧ m ∈ (0 :: (p.1 ++ p.2).map fun k => 1 + hat hs k) ∧ ∀ y ∈ (0 :: (p.1 ++ p.2).map fun k => 1 + hat hs k), y ≤ m)
section
variable {P : Program} {w : World} {K : PySem.W.Frag} {H H' : Hp} {F : Foot} {G : List Pr} {hs : List Int} {ts : List (Key × V)}
theorem k_if2 {b : Bool} {x y : V} {σ : L2.St} {Q : VK} (q : ∀ v, v = x ∨ v = y → Q v H) : if b = true then tC x σ H Q else tC y σ H Q := by
  cases b
  · exact q y (Or.inr rfl)
  · exact q x (Or.inl rfl)
theorem k_revL {te : TE} {σ : L2.St} {Q : VK} (q : te σ H fun x H1 => ∃ a xs, x = .ref a ∧ SqL K H1 a xs ∧ ∀ p, H1 p = none → Q (.ref p) (upd H1 p (.lst xs.reverse))) : tRevL K te σ H Q := q
theorem sql_keep {Z : Addr → Prop} {a : Addr} {xs : List V} (h : SqL K H a xs) (k : Keep Z H H') (z : ∀ o, H a = some o → ¬ Z a) : SqL K H' a xs := by
  rcases h with (h | ⟨o, h⟩) | h
  · exact Or.inl (Or.inl (k _ _ h (z _ h)))
  · exact Or.inl (Or.inr ⟨o, k _ _ h (z _ h)⟩)
  · exact Or.inr h
/-- one list, not the yard's, is changed -/
theorem YardAt.but (Y : YardAt P w K H F G hs ts) {p : Addr} {ys : List V} (hp : H p = some (.lst ys)) (off : Off F p) (k : ∀ c o, H c = some o → c ≠ p → H' c = some o) : YardAt P w K H' F G hs ts := by
  obtain ⟨o1, o2, o3, o4, o5⟩ := off
  have t : ∀ c zs, H c = some (.tup zs) → H' c = some (.tup zs) := fun c zs z => k _ _ z (ne_of z hp (by intro y; cases y))
  exact ⟨k _ _ Y.ins (ne_of Y.ins hp (by intro y; cases y)), let ⟨xs, h1, h2⟩ := Y.ls; ⟨xs, k _ _ h1 o1.symm, h2.ex t⟩, let ⟨xs, h1, h2⟩ := Y.rs; ⟨xs, k _ _ h1 o2.symm, h2.ex t⟩, ⟨k _ _ Y.hs.1 o3.symm, Y.hs.2⟩,
    let ⟨kvs, h1, h2, h3⟩ := Y.ns; ⟨kvs, k _ _ h1 o4.symm, fun x m => (h2 x m).ex t, h3⟩, k _ _ Y.ts o5.symm, Y.ne, Y.ht, Y.G⟩
end
/-- 0, 1, .. below n -/
def nums (n : Nat) : List Int := (List.range n).map fun i : Nat => (i : Int)
theorem nums_len (n : Nat) : (nums n).length = n := by unfold nums; rw [List.length_map, List.length_range]
theorem nums_at {n : Nat} {k : Int} (h0 : 0 ≤ k) (h1 : k < n) : atI ((nums n).map V.int) k = some (V.int k) := by
  obtain ⟨z, hz, e⟩ := at_int (ns := nums n) h0 (by rw [nums_len]; exact h1)
  rw [e]
  unfold nums at hz
  rw [List.getElem?_map, List.getElem?_range (by omega)] at hz
  have hz : ((k.toNat : Nat) : Int) = z := Option.some.inj hz
  rw [← hz, show ((k.toNat : Nat) : Int) = k by omega]
theorem nums_succ (n : Nat) : nums (n + 1) = nums n ++ [(n : Int)] := by unfold nums; rw [List.range_succ, List.map_append]; rfl
theorem mem_nums {n : Nat} {k : Int} : k ∈ nums n ↔ 0 ≤ k ∧ k < n := by
  unfold nums
  rw [List.mem_map]
  constructor
  · rintro ⟨i, m, rfl⟩
    have := List.mem_range.mp m
    omega
  · rintro ⟨h0, h1⟩
    exact ⟨k.toNat, List.mem_range.mpr (by omega), by omega⟩
theorem onI_id (ns : List Int) : (ns.map V.int).filterMap (onI fun k => k) = ns.map V.int := by rw [onI_map, List.map_id']
theorem sorted_asc {l l' : List Int} (p : l'.Perm l) (le : l'.Pairwise (· ≤ ·)) (a : l.Pairwise (· < ·)) : l' = l := by
  have nd : l'.Nodup := p.nodup_iff.mpr (List.Pairwise.imp (fun h => Int.ne_of_lt h) a)
  exact asc_ext (lt_of_le_nodup l' le nd) a fun k => p.mem_iff
theorem k_sortA {K : PySem.W.Frag} {H : Hp} {Q : VK} {a : Addr} {ns : List Int} (h : SqL K H a (ns.map V.int)) (asc : ns.Pairwise (· < ·)) (q : ∀ p, H p = none → Q (.ref p) (upd H p (.lst (ns.map V.int)))) : rSortedI K [.ref a] H Q :=
  ⟨a, ns, rfl, h, fun ns' p pm le n => by rw [sorted_asc pm le asc]; exact q p n⟩
theorem nums_asc (n : Nat) : Asc n (nums n) := by
  refine ⟨?_, fun x m => mem_nums.mp m⟩
  unfold nums
  rw [List.pairwise_map]
  refine List.Pairwise.imp (fun h => Int.ofNat_lt.mpr h) ?_
  first | exact List.pairwise_lt_range | exact List.pairwise_lt_range _
theorem isHt_one {hs : List Int} {g : Pr} {h h' : Int} (a : IsHt hs g h) (b : IsHt hs g h') : h = h' := by
  rcases a with ⟨e, rfl⟩ | ⟨m, mm, ml, rfl⟩
  · rcases b with ⟨_, rfl⟩ | ⟨m', mm', _⟩
    · rfl
    · rw [e] at mm'; simp at mm'
  · rcases b with ⟨e, _⟩ | ⟨m', mm', ml', rfl⟩
    · rw [e] at mm; simp at mm
    · have h1 := ml m' mm'
      have h2 := ml' m mm
      omega
theorem ht_same {G G' : List Pr} {hs hs' : List Int} (o : HtOk G hs) (o' : HtOk G' hs') (sub : ∀ (i : Nat) (g : Pr), G[i]? = some g → G'[i]? = some g) (f : Forms G) : ∀ (n i : Nat), i < n → i < G.length → hat hs i = hat hs' i := by
  intro n
  induction n with
  | zero => intro i h; exact absurd h (Nat.not_lt_zero _)
  | succ n ih =>
    intro i hi hl
    have hg := List.getElem?_eq_getElem hl
    have a := o i _ hg
    have b := o' i _ (sub i _ hg)
    obtain ⟨a1, a2⟩ := f.asc i _ hg
    have e : (G[i].1 ++ G[i].2).map (hat hs) = (G[i].1 ++ G[i].2).map (hat hs') := by
      refine List.map_congr_left fun k m => ?_
      have bk := Asc.both a1 a2 k m
      have := ih k.toNat (by omega) (by omega)
      rw [show ((k.toNat : Nat) : Int) = k by omega] at this
      exact this
    unfold IsHt at b
    rw [← e] at b
    exact isHt_one a b
theorem nodup_le : ∀ (l m : List Int), l.Nodup → (∀ x ∈ l, x ∈ m) → l.length ≤ m.length
  | [], _, _, _ => Nat.zero_le _
  | x :: l, m, n, s => by
    obtain ⟨n1, n2⟩ := List.nodup_cons.mp n
    have hx := s x List.mem_cons_self
    have h := nodup_le l (m.erase x) n2 fun y my => (List.mem_erase_of_ne (fun (e : y = x) => n1 (e ▸ my))).mpr (s y (List.mem_cons_of_mem _ my))
    rw [List.length_erase_of_mem hx] at h
    have := List.length_pos_of_mem hx
    rw [List.length_cons]
    omega
/-- who is reached from k past none of the done -/
inductive Rch (G : List Pr) (dk : Int → Bool) (k : Int) : Int → Prop
  | root : dk k = false → Rch G dk k k
  | step {i j : Int} {g : Pr} : Rch G dk k i → G[i.toNat]? = some g → j ∈ g.1 ++ g.2 → dk j = false → Rch G dk k j
def dkey (kvs : List (Key × V)) : Int → Bool := fun j => (valV kvs (Sum.inl j)).isSome
theorem Rch.bound {G : List Pr} {dk : Int → Bool} {k j : Int} (f : Forms G) (h0 : 0 ≤ k ∧ k < G.length) (r : Rch G dk k j) : 0 ≤ j ∧ j ≤ k := by
  induction r with
  | root _ => exact ⟨h0.1, Int.le_refl _⟩
  | @step i j g r hg m _ ih =>
    obtain ⟨a1, a2⟩ := f.asc _ _ hg
    have := Asc.both a1 a2 _ m
    omega
end Mine
namespace Mine
open PySem PySem.Spec PyProof.Rows L2
open PySem.AutoSeq1
set_option maxHeartbeats 1600000 in
theorem tuple_mul_one (l : Addr) (items : Array Value) (n : Nat) (dd : Option Addr) (sl : Array (Option Value)) (u : Tok) :
    Meets (Builtin.«tuple.__mul__» ⟨[.ref l, .int 1 u], []⟩) (fun _ R s => s.heap.get? l = some { cls := .type "tuple", dict := dd, data := .seq items n, slots := sl } ∧ R (.ok (.ret (.ref l))) s) :=
  .of_wp fun prog w A R s h => by
    obtain ⟨h1, h⟩ := h
    unfold Builtin.«tuple.__mul__»
    wp_walk
    exact ⟨_, rfl, h⟩
set_option maxHeartbeats 1600000 in
theorem tuple_mul_zero (l : Addr) (items : Array Value) (n : Nat) (dd : Option Addr) (sl : Array (Option Value)) (u : Tok) (he : items.isEmpty = false) :
    Meets (Builtin.«tuple.__mul__» ⟨[.ref l, .int 0 u], []⟩) (fun _ R s => s.heap.get? l = some { cls := .type "tuple", dict := dd, data := .seq items n, slots := sl } ∧ R (.ok (.ret (.ref s.heap.objs.size))) { s with heap := s.heap.push { cls := .type "tuple", data := .seq #[] } }) :=
  .of_wp fun prog w A R s h => by
    obtain ⟨h1, h⟩ := h
    unfold Builtin.«tuple.__mul__»
    wp_walk
    exact ⟨_, rfl, h⟩
end Mine
namespace Mine
open PySem PySem.Spec PyProof.Rows L2
def rRepA (K : PySem.W.Frag) : R2 := fun x y H Q => ∃ l k xs, x = .ref l ∧ y = .int k ∧ SqT K H l xs ∧ xs ≠ [] ∧ 0 ≤ k ∧ k ≤ 1000 ∧ xs.length ≤ 1000 ∧ (k = 1 → Q (.ref l) H) ∧ (k ≠ 1 → ∀ p, H p = none → Q (.ref p) (upd H p (.tup (List.replicate k.toNat xs).flatten)))
theorem op_repA {X : Cx} : OpR X (binaryOp .Mult) (rRepA X.K) := by
  rintro pins s σ H x y v u Q I rx ry ⟨l, k, xs, rfl, rfl, hq, ne, k0, k1000, l1000, q1, q2⟩
  rcases (show k = 0 ∨ k = 1 ∨ 2 ≤ k by omega) with rfl | rfl | k2
  · obtain ⟨its, rv, ⟨o, ho, hc, n, hd⟩, hz⟩ := I.tuple hq
    have q := q2 (by decide)
    cases rx
    obtain ⟨tk, rfl⟩ := ry
    obtain ⟨cls, dd, dat, sl⟩ := o
    cases hc
    cases hd
    have he : its.toArray.isEmpty = false := by
      cases its with
      | nil => cases rv; exact absurd rfl ne
      | cons z zs => rfl
    refine wpAny_binaryOp_repeat_ref (T := "tuple") (U := "int") (by decide) ⟨_, ho, rfl⟩ (fun s' => typeIs_int s' 0 tk) noFill_tuple_mul F.fills_int_mul F.slot_int_rmul repeat_tuple F.slot_int_index.lookup ?_
    refine call_meets F.slot_int_rmul (typeIs_int _ 0 tk) F.entry_int_rmul (F.args_int_rmul_2 _ _) (int_rmul_tuple 0 tk l its.toArray n dd sl) ⟨ho, rfl, ⟨_, ho, rfl⟩, ?_⟩
    refine call_meets F.slot_tuple_mul ⟨_, ho, rfl⟩ F.entry_tuple_mul (F.args_tuple_mul_2 _ _) (tuple_mul_zero l its.toArray n dd sl tk he) ⟨ho, ?_⟩
    refine ⟨.ref s.heap.objs.size, upd H s.heap.objs.size (.tup []), I.laid (fun b u h => Heap.get?_push_of_some _ h) (Nat.le_refl _) ?_, rfl, q _ (I.hok.fresh (Nat.le_refl _))⟩
    exact ⟨Nat.zero_le _, [], .nil, IsTup.new _ _⟩
  · obtain ⟨its, rv, ⟨o, ho, hc, n, hd⟩, hz⟩ := I.tuple hq
    cases rx
    obtain ⟨tk, rfl⟩ := ry
    obtain ⟨cls, dd, dat, sl⟩ := o
    cases hc
    cases hd
    refine wpAny_binaryOp_repeat_ref (T := "tuple") (U := "int") (by decide) ⟨_, ho, rfl⟩ (fun s' => typeIs_int s' 1 tk) noFill_tuple_mul F.fills_int_mul F.slot_int_rmul repeat_tuple F.slot_int_index.lookup ?_
    refine call_meets F.slot_int_rmul (typeIs_int _ 1 tk) F.entry_int_rmul (F.args_int_rmul_2 _ _) (int_rmul_tuple 1 tk l its.toArray n dd sl) ⟨ho, rfl, ⟨_, ho, rfl⟩, ?_⟩
    refine call_meets F.slot_tuple_mul ⟨_, ho, rfl⟩ F.entry_tuple_mul (F.args_tuple_mul_2 _ _) (tuple_mul_one l its.toArray n dd sl tk) ⟨ho, ?_⟩
    exact ⟨.ref l, H, I, rfl, q1 rfl⟩
  · exact op_repT pins s σ H _ _ v u Q I rx ry ⟨l, k, xs, rfl, rfl, hq, ne, k2, k1000, l1000, q2 (by omega)⟩
end Mine
namespace Mine
open PySem PySem.Spec PyProof.Rows L2
open Evl (Ex)
/-! what a cell and its digits are, as functions -/
def cellF (ns : List Int) (k : Int) : Int := if k < ns.length then ns.getD k.toNat 0 else ns.foldl (fun m c => (m * 31 + c) % 2147483647) (104729 * k + 7)
def dgA (c : Int) : Nat → List Int × Int
  | 0 => ([], c)
  | i + 1 => ((dgA c i).1 ++ [(dgA c i).2 % 60], (dgA c i).2 / 60)
def dgB (c : Int) : Nat → List Int × Int
  | 0 => ([], (c * 48271 + 11) % 2147483647)
  | i + 1 => ((dgB c i).1 ++ [((dgB c i).2 * 69621 + 7 * (i : Int) + 1) % 2147483629 / 64 % 60], ((dgB c i).2 * 69621 + 7 * (i : Int) + 1) % 2147483629)
def dgF (c : Int) (n : Nat) : List Int := if 1000000000000000000 ≤ c then (dgA c n).1 else (dgB c n).1
theorem dgA_len (c : Int) : ∀ n, (dgA c n).1.length = n
  | 0 => rfl
  | n + 1 => by show ((dgA c n).1 ++ [_]).length = _; rw [List.length_append, dgA_len c n]; rfl
theorem dgB_len (c : Int) : ∀ n, (dgB c n).1.length = n
  | 0 => rfl
  | n + 1 => by show ((dgB c n).1 ++ [_]).length = _; rw [List.length_append, dgB_len c n]; rfl
theorem dgF_len (c : Int) (n : Nat) : (dgF c n).length = n := by
  unfold dgF
  split
  · exact dgA_len c n
  · exact dgB_len c n
theorem dgA_in (c : Int) : ∀ n, ∀ d ∈ (dgA c n).1, 0 ≤ d ∧ d < 60
  | 0, d, m => by cases m
  | n + 1, d, m => by
    rcases List.mem_append.mp (show d ∈ (dgA c n).1 ++ [_] from m) with m | m
    · exact dgA_in c n d m
    · rw [List.mem_singleton.mp m]; omega
theorem dgB_in (c : Int) : ∀ n, ∀ d ∈ (dgB c n).1, 0 ≤ d ∧ d < 60
  | 0, d, m => by cases m
  | n + 1, d, m => by
    rcases List.mem_append.mp (show d ∈ (dgB c n).1 ++ [_] from m) with m | m
    · exact dgB_in c n d m
    · rw [List.mem_singleton.mp m]; omega
theorem dgF_in (c : Int) (n : Nat) : ∀ d ∈ dgF c n, 0 ≤ d ∧ d < 60 := by
  unfold dgF
  split
  · exact dgA_in c n
  · exact dgB_in c n
/-! cakes -/
structure FCakes (K : PySem.W.Frag) : Prop where
  cl : Cls K (He.ga K "Cakes")
  na : NoAttr K (He.ga K "Cakes") "_cakes"
def cfs (t : Addr) : List (Str × V) := putF "_cakes" (.ref t) []
theorem cfs_get (t : Addr) : (cfs t).lookup ("_cakes" : Str) = some (.ref t) := by
  unfold cfs
  rw [lookup_putF, if_pos rfl]
theorem cfs_no (t : Addr) {m : Str} (h : ¬ m = "_cakes") : (cfs t).lookup m = none := by
  unfold cfs
  rw [lookup_putF, if_neg h]
  rfl
abbrev Ck := Int × Int
def CkAt (H : Hp) (y : V) (c : Ck) : Prop := ∃ a, y = .ref a ∧ H a = some (.tup [.int c.1, .int c.2])
theorem CkAt.keep {H H' : Hp} {y : V} {c : Ck} (h : CkAt H y c) (k : ∀ c o, H c = some o → (∀ ys, o ≠ .lst ys) → H' c = some o) : CkAt H' y c := let ⟨a, r, z⟩ := h; ⟨a, r, k _ _ z (fun ys z => by cases z)⟩
theorem CkAt.ex {H H' : Hp} {y : V} {c : Ck} (h : CkAt H y c) (e : Ex H H') : CkAt H' y c := h.keep fun c o z _ => e c o z
/-- a list of things, each with its property -/
def AllAt {α : Type} (P : Hp → V → α → Prop) (H : Hp) (xs : List V) (cs : List α) : Prop := xs.length = cs.length ∧ ∀ (i : Nat) (c : α), cs[i]? = some c → ∃ y, xs[i]? = some y ∧ P H y c
theorem AllAt.imp {α : Type} {P : Hp → V → α → Prop} {H H' : Hp} {xs : List V} {cs : List α} (h : AllAt P H xs cs) (f : ∀ y c, P H y c → P H' y c) : AllAt P H' xs cs := ⟨h.1, fun i c q => let ⟨y, h1, h2⟩ := h.2 i c q; ⟨y, h1, f _ _ h2⟩⟩
theorem get_snoc2 {α : Type} {l : List α} {x y : α} {i : Nat} (h : (l ++ [x])[i]? = some y) : l[i]? = some y ∨ (i = l.length ∧ y = x) := by
  rcases Nat.lt_or_ge i l.length with c | c
  · rw [List.getElem?_append_left c] at h; exact Or.inl h
  · have l2 := (List.getElem?_eq_some_iff.mp h).1
    rw [List.length_append, List.length_singleton] at l2
    have e : i = l.length := by omega
    subst e
    rw [List.getElem?_append_right (Nat.le_refl _), Nat.sub_self] at h
    exact Or.inr ⟨rfl, (Option.some.inj h).symm⟩
theorem AllAt.nil {α : Type} {P : Hp → V → α → Prop} {H : Hp} : AllAt P H [] [] := ⟨rfl, fun i c h => by simp at h⟩
theorem AllAt.app {α : Type} {P : Hp → V → α → Prop} {H : Hp} {xs ys : List V} {cs ds : List α} (h : AllAt P H xs cs) (h' : AllAt P H ys ds) : AllAt P H (xs ++ ys) (cs ++ ds) := by
  refine ⟨by rw [List.length_append, List.length_append, h.1, h'.1], fun i c q => ?_⟩
  rcases Nat.lt_or_ge i cs.length with l | l
  · rw [List.getElem?_append_left l] at q
    obtain ⟨y, h1, h2⟩ := h.2 i c q
    exact ⟨y, by rw [List.getElem?_append_left (by rw [h.1]; exact l)]; exact h1, h2⟩
  · rw [List.getElem?_append_right l] at q
    obtain ⟨y, h1, h2⟩ := h'.2 _ c q
    exact ⟨y, by rw [List.getElem?_append_right (by rw [h.1]; exact l), h.1]; exact h1, h2⟩
theorem AllAt.one {α : Type} {P : Hp → V → α → Prop} {H : Hp} {y : V} {c : α} (h : P H y c) : AllAt P H [y] [c] := by
  refine ⟨rfl, fun i d q => ?_⟩
  match i with
  | 0 => cases q; exact ⟨y, rfl, h⟩
  | i + 1 => cases q
theorem AllAt.take {α : Type} {P : Hp → V → α → Prop} {H : Hp} {xs : List V} {cs : List α} (h : AllAt P H xs cs) (n : Nat) : AllAt P H (xs.take n) (cs.take n) := by
  refine ⟨by rw [List.length_take, List.length_take, h.1], fun i c q => ?_⟩
  have l := (List.getElem?_eq_some_iff.mp q).1
  rw [List.length_take] at l
  rw [List.getElem?_take_of_lt (by omega)] at q
  obtain ⟨y, h1, h2⟩ := h.2 i c q
  exact ⟨y, by rw [List.getElem?_take_of_lt (by omega)]; exact h1, h2⟩
theorem AllAt.drop {α : Type} {P : Hp → V → α → Prop} {H : Hp} {xs : List V} {cs : List α} (h : AllAt P H xs cs) (n : Nat) : AllAt P H (xs.drop n) (cs.drop n) := by
  refine ⟨by rw [List.length_drop, List.length_drop, h.1], fun i c q => ?_⟩
  rw [List.getElem?_drop] at q
  obtain ⟨y, h1, h2⟩ := h.2 _ c q
  exact ⟨y, by rw [List.getElem?_drop]; exact h1, h2⟩
theorem AllAt.rep {α : Type} {P : Hp → V → α → Prop} {H : Hp} {y : V} {c : α} (h : P H y c) : ∀ n : Nat, AllAt P H (List.replicate n [y]).flatten (List.replicate n c)
  | 0 => .nil
  | n + 1 => by
    rw [List.replicate_succ, List.replicate_succ, List.flatten_cons]
    exact AllAt.app (cs := [c]) (.one h) (AllAt.rep h n)
abbrev CsAt := AllAt CkAt
theorem CsAt.keep {H H' : Hp} {xs : List V} {cs : List Ck} (h : CsAt H xs cs) (k : ∀ c o, H c = some o → (∀ ys, o ≠ .lst ys) → H' c = some o) : CsAt H' xs cs := h.imp fun y c q => q.keep k
theorem CsAt.ex {H H' : Hp} {xs : List V} {cs : List Ck} (h : CsAt H xs cs) (e : Ex H H') : CsAt H' xs cs := h.imp fun y c q => q.ex e
/-- a board of cakes -/
def CbAt (K : PySem.W.Frag) (H : Hp) (b : Addr) (cs : List Ck) : Prop := ∃ dx t xs, H b = some (.ins (He.ga K "Cakes") dx (cfs t)) ∧ H t = some (.tup xs) ∧ CsAt H xs cs
theorem CbAt.keep {K : PySem.W.Frag} {H H' : Hp} {b : Addr} {cs : List Ck} (h : CbAt K H b cs) (k : ∀ c o, H c = some o → (∀ ys, o ≠ .lst ys) → H' c = some o) : CbAt K H' b cs :=
  let ⟨dx, t, xs, h1, h2, h3⟩ := h; ⟨dx, t, xs, k _ _ h1 (fun ys z => by cases z), k _ _ h2 (fun ys z => by cases z), h3.keep k⟩
theorem CbAt.ex {K : PySem.W.Frag} {H H' : Hp} {b : Addr} {cs : List Ck} (h : CbAt K H b cs) (e : Ex H H') : CbAt K H' b cs := h.keep fun c o z _ => e c o z
theorem CbAt.set {K : PySem.W.Frag} {H : Hp} {b p : Addr} {cs : List Ck} {ys : List V} {o : HO} (h : CbAt K H b cs) (hp : H p = some (.lst ys)) : CbAt K (upd H p o) b cs :=
  h.keep fun c q z n => (upd_ne fun e => n ys (by rw [e, hp] at z; exact (Option.some.inj z).symm)).trans z
def CbV (K : PySem.W.Frag) (H : Hp) (y : V) (cs : List Ck) : Prop := ∃ b, y = .ref b ∧ CbAt K H b cs
/-- a value that is due -/
def DuC (H : Hp) (y : V) (cs : List Ck) : Prop := ∃ d u xs, y = .ref d ∧ H d = some (.tup [.str "cakes", .ref u]) ∧ H u = some (.tup xs) ∧ CsAt H xs cs
theorem DuC.keep {H H' : Hp} {y : V} {cs : List Ck} (h : DuC H y cs) (k : ∀ c o, H c = some o → (∀ ys, o ≠ .lst ys) → H' c = some o) : DuC H' y cs :=
  let ⟨d, u, xs, e, h1, h2, h3⟩ := h; ⟨d, u, xs, e, k _ _ h1 (fun ys z => by cases z), k _ _ h2 (fun ys z => by cases z), h3.keep k⟩
theorem DuC.ex {H H' : Hp} {y : V} {cs : List Ck} (h : DuC H y cs) (e : Ex H H') : DuC H' y cs := h.keep fun c o z _ => e c o z
/-- the squares of some cakes -/
def sqs (cs : List Ck) : Int := (cs.map fun c => c.1 * c.2).sum
def OkK (c : Ck) : Prop := 1 ≤ c.1 ∧ c.1 ≤ 12 ∧ 1 ≤ c.2 ∧ c.2 ≤ 12
def OkC (cs : List Ck) : Prop := (∀ c ∈ cs, OkK c) ∧ sqs cs ≤ 144
theorem sqs_app (a b : List Ck) : sqs (a ++ b) = sqs a + sqs b := by
  unfold sqs
  rw [List.map_append, List.sum_append]
theorem sqs_cons (c : Ck) (b : List Ck) : sqs (c :: b) = c.1 * c.2 + sqs b := by
  unfold sqs
  rw [List.map_cons, List.sum_cons]
theorem okK_sq {c : Ck} (h : OkK c) : 1 ≤ c.1 * c.2 ∧ c.1 * c.2 ≤ 144 := by
  obtain ⟨a, b, d, e⟩ := h
  refine ⟨?_, ?_⟩
  · have := Int.mul_le_mul a d (by decide) (by omega)
    omega
  · have := Int.mul_le_mul b e (by omega) (by omega)
    omega
theorem len_sqs : ∀ {cs : List Ck}, (∀ c ∈ cs, OkK c) → (cs.length : Int) ≤ sqs cs
  | [], _ => by decide
  | c :: cs, h => by
    have h1 := okK_sq (h c (List.mem_cons_self ..))
    have h2 := len_sqs fun c m => h c (List.mem_cons_of_mem _ m)
    rw [sqs_cons, List.length_cons]
    omega
theorem OkC.len {cs : List Ck} (h : OkC cs) : cs.length ≤ 144 := by
  have := len_sqs h.1
  have := h.2
  omega
/-- the pairs of pieces of a cake -/
def cutsC (s : Str) (c : Ck) : List (Ck × Ck) := if s = "left" then (List.range (c.2 - 1).toNat).map fun (j : Nat) => ((c.1, 1 + (j : Int)), (c.1, c.2 - (1 + (j : Int)))) else (List.range (c.1 - 1).toNat).map fun (j : Nat) => ((1 + (j : Int), c.2), (c.1 - (1 + (j : Int)), c.2))
def mvAtC (s : Str) (cs : List Ck) (i : Nat) : List (List Ck) := (cutsC s (cs.getD i (1, 1))).map fun two => cs.take i ++ [two.1, two.2] ++ cs.drop (i + 1)
def mvsC (s : Str) (cs : List Ck) : List (List Ck) := (List.range cs.length).flatMap (mvAtC s cs)
theorem cuts_ok {s : Str} {c : Ck} (h : OkK c) {two : Ck × Ck} (m : two ∈ cutsC s c) : OkK two.1 ∧ OkK two.2 ∧ two.1.1 * two.1.2 + two.2.1 * two.2.2 = c.1 * c.2 := by
  obtain ⟨a, b, d, e⟩ := h
  unfold cutsC at m
  split at m
  · obtain ⟨j, hj, rfl⟩ := List.mem_map.mp m
    have hj := List.mem_range.mp hj
    refine ⟨⟨a, b, by show 1 ≤ 1 + (j : Int); omega, by show 1 + (j : Int) ≤ 12; omega⟩, ⟨a, b, by show 1 ≤ c.2 - (1 + (j : Int)); omega, by show c.2 - (1 + (j : Int)) ≤ 12; omega⟩, ?_⟩
    show c.1 * (1 + (j : Int)) + c.1 * (c.2 - (1 + (j : Int))) = c.1 * c.2
    rw [← Int.mul_add]
    congr 1
    omega
  · obtain ⟨j, hj, rfl⟩ := List.mem_map.mp m
    have hj := List.mem_range.mp hj
    refine ⟨⟨by show 1 ≤ 1 + (j : Int); omega, by show 1 + (j : Int) ≤ 12; omega, d, e⟩, ⟨by show 1 ≤ c.1 - (1 + (j : Int)); omega, by show c.1 - (1 + (j : Int)) ≤ 12; omega, d, e⟩, ?_⟩
    show (1 + (j : Int)) * c.2 + (c.1 - (1 + (j : Int))) * c.2 = c.1 * c.2
    rw [← Int.add_mul]
    congr 1
    omega
theorem cuts_len {s : Str} {c : Ck} (h : OkK c) : (cutsC s c).length ≤ 11 := by
  obtain ⟨a, b, d, e⟩ := h
  unfold cutsC
  split
  · rw [List.length_map, List.length_range]; omega
  · rw [List.length_map, List.length_range]; omega
theorem get_mem {α : Type} {cs : List α} {i : Nat} (h : i < cs.length) (d : α) : cs.getD i d ∈ cs ∧ cs = cs.take i ++ [cs.getD i d] ++ cs.drop (i + 1) := by
  have e : cs.getD i d = cs[i] := by rw [List.getD_eq_getElem?_getD, List.getElem?_eq_getElem h]; rfl
  refine ⟨by rw [e]; exact List.getElem_mem h, ?_⟩
  rw [e, List.append_assoc]
  show cs = cs.take i ++ (cs[i] :: cs.drop (i + 1))
  rw [← List.drop_eq_getElem_cons h, List.take_append_drop]
theorem ok_mv {s : Str} {cs : List Ck} (ok : OkC cs) {i : Nat} (hi : i < cs.length) {two : Ck × Ck} (m : two ∈ cutsC s (cs.getD i (1, 1))) : OkC (cs.take i ++ [two.1, two.2] ++ cs.drop (i + 1)) := by
  obtain ⟨gm, ge⟩ := get_mem hi (1, 1)
  obtain ⟨o1, o2, o3⟩ := cuts_ok (ok.1 _ gm) m
  refine ⟨fun c m => ?_, ?_⟩
  · rcases List.mem_append.mp m with m | m
    · rcases List.mem_append.mp m with m | m
      · exact ok.1 c (List.mem_of_mem_take m)
      · rcases List.mem_cons.mp m with rfl | m
        · exact o1
        · rw [List.mem_singleton.mp m]; exact o2
    · exact ok.1 c (List.mem_of_mem_drop m)
  · have h := ok.2
    rw [ge, sqs_app, sqs_app, sqs_cons] at h
    rw [sqs_app, sqs_app, sqs_cons, sqs_cons]
    have z : sqs [] = 0 := rfl
    omega
theorem mvs_ok {s : Str} {cs : List Ck} (ok : OkC cs) : ∀ m ∈ mvsC s cs, OkC m := by
  intro m h
  obtain ⟨i, hi, h⟩ := List.mem_flatMap.mp h
  obtain ⟨two, ht, rfl⟩ := List.mem_map.mp h
  exact ok_mv ok (List.mem_range.mp hi) ht
theorem mvs_len {s : Str} {cs : List Ck} (ok : OkC cs) (n : Nat) (h : n ≤ cs.length) : ((List.range n).flatMap (mvAtC s cs)).length ≤ 11 * n := by
  induction n with
  | zero => exact Nat.le_refl _
  | succ n ih =>
    have h1 := ih (by omega)
    rw [List.range_succ, List.flatMap_append, List.length_append]
    have h2 : ([n].flatMap (mvAtC s cs)).length ≤ 11 := by
      rw [List.flatMap_cons, List.flatMap_nil, List.append_nil]
      unfold mvAtC
      rw [List.length_map]
      exact cuts_len (ok.1 _ (get_mem (show n < cs.length by omega) (1, 1)).1)
    omega
end Mine
namespace Mine
open PySem PySem.Spec PyProof.Rows L2
open Evl (Ex)
/-- two pieces -/
def TwAt (H : Hp) (y : V) (two : Ck × Ck) : Prop := ∃ a y1 y2, y = .ref a ∧ H a = some (.tup [y1, y2]) ∧ CkAt H y1 two.1 ∧ CkAt H y2 two.2
theorem TwAt.keep {H H' : Hp} {y : V} {c : Ck × Ck} (h : TwAt H y c) (k : ∀ c o, H c = some o → (∀ ys, o ≠ .lst ys) → H' c = some o) : TwAt H' y c := let ⟨a, y1, y2, r, z, h1, h2⟩ := h; ⟨a, y1, y2, r, k _ _ z (fun ys z => by cases z), h1.keep k, h2.keep k⟩
theorem TwAt.ex {H H' : Hp} {y : V} {c : Ck × Ck} (h : TwAt H y c) (e : Ex H H') : TwAt H' y c := h.keep fun c o z _ => e c o z
theorem CsAt.mv {H : Hp} {xs : List V} {cs : List Ck} {y1 y2 : V} {two : Ck × Ck} (R : CsAt H xs cs) (i : Nat) (h1 : CkAt H y1 two.1) (h2 : CkAt H y2 two.2) : CsAt H (xs.take i ++ [y1, y2] ++ xs.drop (i + 1)) (cs.take i ++ [two.1, two.2] ++ cs.drop (i + 1)) :=
  ((R.take i).app (AllAt.app (xs := [y1]) (ys := [y2]) (cs := [two.1]) (ds := [two.2]) (.one h1) (.one h2))).app (R.drop (i + 1))
theorem CbV.keep {K : PySem.W.Frag} {H H' : Hp} {y : V} {cs : List Ck} (h : CbV K H y cs) (k : ∀ c o, H c = some o → (∀ ys, o ≠ .lst ys) → H' c = some o) : CbV K H' y cs := let ⟨b, r, z⟩ := h; ⟨b, r, z.keep k⟩
theorem CbV.ex {K : PySem.W.Frag} {H H' : Hp} {y : V} {cs : List Ck} (h : CbV K H y cs) (e : Ex H H') : CbV K H' y cs := h.keep fun c o z _ => e c o z
abbrev BsC (K : PySem.W.Frag) (H : Hp) (ys : List V) (css : List (List Ck)) : Prop := AllAt (CbV K) H ys css
abbrev DsC (H : Hp) (ys : List V) (css : List (List Ck)) : Prop := AllAt DuC H ys css
end Mine
namespace Mine
open PySem PySem.Spec PyProof.Rows L2
open Evl (Ex)
/-- the data of a cake -/
def ckD (c : Ck) : PyData := .tuple ([c.1, c.2].map .int)
theorem CkAt.dp {K : PySem.W.Frag} {H : Hp} {y : V} {c : Ck} (h : CkAt H y c) : Dp K H y (ckD c) := by
  obtain ⟨a, rfl, ha⟩ := h
  exact .tup (k_st ha) (dp_ints [c.1, c.2])
theorem eqv_ck (c d : Ck) : (ckD c).eqv (ckD d) = decide (c = d) := by
  unfold ckD
  simp only [PyData.eqv, PySem.W.ked_eqvAll]
  obtain ⟨a, b⟩ := c
  obtain ⟨e, f⟩ := d
  by_cases h1 : a = e <;> by_cases h2 : b = f <;> simp [h1, h2]
theorem deep_ck (c : Ck) : (ckD c).depth = 1 := by
  unfold ckD
  simp only [PyData.depth, deep_ints]
theorem lay_ck (c : Ck) : (ckD c).canLay0 = true := by
  unfold ckD
  simp only [PyData.canLay0, lay_ints]
theorem shaped_ck (c : Ck) : SeqAt.shaped (ckD c) = true := by
  unfold SeqAt.shaped
  rw [lay_ck, decide_eq_true (by rw [deep_ck]; decide)]
  rfl
theorem k_neCk {K : PySem.W.Frag} {H : Hp} {Q : VK} {x y : V} {c d : Ck} (f1 : CkAt H x c) (f2 : CkAt H y d) (q : Q (.bl (!decide (c = d))) H) : rNeD K x y H Q :=
  ⟨ckD c, ckD d, f1.dp, f2.dp, shaped_ck c, shaped_ck d, by rw [eqv_ck]; exact q⟩
theorem AllAt.tail {α : Type} {P : Hp → V → α → Prop} {H : Hp} {y : V} {ys : List V} {c : α} {cs : List α} (h : AllAt P H (y :: ys) (c :: cs)) : P H y c ∧ AllAt P H ys cs := by
  refine ⟨?_, by have := h.1; rw [List.length_cons, List.length_cons] at this; omega, fun i r' q => ?_⟩
  · obtain ⟨y', h1, h2⟩ := h.2 0 c rfl
    cases h1; exact h2
  · obtain ⟨y', h1, h2⟩ := h.2 (i + 1) r' q
    exact ⟨y', h1, h2⟩
theorem CsAt.dp {K : PySem.W.Frag} {H : Hp} : ∀ {xs : List V} {cs : List Ck}, CsAt H xs cs → DpAll K H xs (cs.map ckD)
  | [], [], _ => .nil
  | y :: ys, r :: rs, h => .cons h.tail.1.dp (CsAt.dp h.tail.2)
  | [], _ :: _, h => absurd h.1 (by simp)
  | _ :: _, [], h => absurd h.1 (by simp)
theorem deep_cks : ∀ rs : List Ck, PyData.depthAll (rs.map ckD) ≤ 1
  | [] => by simp only [List.map_nil, PyData.depthAll]; decide
  | g :: rs => by
    have h := deep_cks rs
    simp only [List.map_cons, PyData.depthAll, deep_ck]
    omega
theorem lay_cks : ∀ rs : List Ck, PyData.canLayAll0 (rs.map ckD) = true
  | [] => rfl
  | g :: rs => by
    simp only [List.map_cons, PyData.canLayAll0, lay_ck, lay_cks rs]
    rfl
theorem shaped_cks (rs : List Ck) : SeqAt.shaped (.list (rs.map ckD)) = true := by
  have h := deep_cks rs
  have hd : (PyData.list (rs.map ckD)).depth ≤ 64 := by simp only [PyData.depth]; omega
  have hl : (PyData.list (rs.map ckD)).canLay0 = true := by simp only [PyData.canLay0]; exact lay_cks rs
  unfold SeqAt.shaped
  rw [hl, decide_eq_true hd]
  rfl
theorem eqvAll_cks : ∀ rs : List Ck, PyData.eqvAll (rs.map ckD) (rs.map ckD) = true
  | [] => by simp only [List.map_nil, PyData.eqvAll]
  | g :: rs => by
    simp only [List.map_cons, PyData.eqvAll, eqvAll_cks rs, eqv_ck]
    simp
theorem k_neCks {K : PySem.W.Frag} {H : Hp} {Q : VK} {a b : Addr} {xs : List V} {cs : List Ck} (h1 : SqL K H a xs) (h2 : SqL K H b xs) (R : CsAt H xs cs) (q : Q (.bl false) H) : rNeD K (.ref a) (.ref b) H Q :=
  ⟨_, _, .lst h1 R.dp, .lst h2 R.dp, shaped_cks cs, shaped_cks cs, by rw [PyData.eqv, eqvAll_cks]; exact q⟩
/-- the parts -/
def partsC (cs : List Ck) : List (List Ck) := (cs.filter fun c => !decide (c = (1, 1))).map fun c => [c]
theorem parts_len (cs : List Ck) : (partsC cs).length ≤ cs.length := by
  unfold partsC
  rw [List.length_map]
  exact List.length_filter_le _ _
theorem parts_take {cs : List Ck} {i : Nat} {c : Ck} (h : cs[i]? = some c) : partsC (cs.take (i + 1)) = partsC (cs.take i) ++ (if c = (1, 1) then [] else [[c]]) := by
  unfold partsC
  rw [List.take_add_one, h, List.filter_append, List.map_append]
  congr 1
  show ([c].filter fun c => !decide (c = (1, 1))).map _ = _
  by_cases z : c = (1, 1)
  · rw [if_pos z, List.filter_cons, decide_eq_true z]; rfl
  · rw [if_neg z, List.filter_cons, decide_eq_false z]; rfl
theorem okC_one {c : Ck} (h : OkK c) : OkC [c] := by
  refine ⟨fun d m => by rw [List.mem_singleton.mp m]; exact h, ?_⟩
  have := (okK_sq h).2
  rw [sqs_cons]
  have z : sqs [] = 0 := rfl
  omega
end Mine
namespace Mine
open PySem PySem.Spec PyProof.Rows L2
open Evl (Ex)
def cakeF (ds : List Int) (most : Int) (i : Nat) : Ck := (1 + ds.getD (1 + 2 * (i : Int)).toNat 0 % most, 1 + ds.getD (2 + 2 * (i : Int)).toNat 0 % most)
def ckF (ds : List Int) (most : Int) : Nat → List Ck × Int
  | 0 => ([], 0)
  | i + 1 => if (ckF ds most i).2 + (cakeF ds most i).1 * (cakeF ds most i).2 ≤ 144 then ((ckF ds most i).1 ++ [cakeF ds most i], (ckF ds most i).2 + (cakeF ds most i).1 * (cakeF ds most i).2) else ckF ds most i
theorem cakeF_ok {ds : List Int} {most : Int} (hm : most = 12 ∨ most = 4) (i : Nat) : OkK (cakeF ds most i) := by
  unfold OkK cakeF
  rcases hm with rfl | rfl <;> refine ⟨?_, ?_, ?_, ?_⟩ <;> (show _ ≤ _; omega)
theorem ckF_ok {ds : List Int} {most : Int} (hm : most = 12 ∨ most = 4) : ∀ i, (∀ c ∈ (ckF ds most i).1, OkK c) ∧ sqs (ckF ds most i).1 = (ckF ds most i).2 ∧ (ckF ds most i).2 ≤ 144 ∧ (ckF ds most i).1.length ≤ i
  | 0 => ⟨fun c m => absurd (show c ∈ ([] : List Ck) from m) (by simp), rfl, (show (0 : Int) ≤ 144 by decide), Nat.le_refl _⟩
  | i + 1 => by
    obtain ⟨h1, h2, h3, h4⟩ := ckF_ok hm i
    unfold ckF
    split
    · rename_i h
      refine ⟨fun c m => ?_, ?_, h, ?_⟩
      · rcases List.mem_append.mp m with m | m
        · exact h1 c m
        · rw [List.mem_singleton.mp m]; exact cakeF_ok hm i
      · show sqs ((ckF ds most i).1 ++ [cakeF ds most i]) = _
        rw [sqs_app, sqs_cons, h2]
        have z : sqs [] = 0 := rfl
        omega
      · show ((ckF ds most i).1 ++ [_]).length ≤ _
        rw [List.length_append, List.length_singleton]; omega
    · exact ⟨h1, h2, h3, by omega⟩
def mostF (ds : List Int) : Int := if ds.getD (29 : Int).toNat 0 % 3 = 0 then 12 else 4
def cakesF (c : Int) : List Ck := (ckF (dgF c 30) (mostF (dgF c 30)) ((dgF c 30).getD (0 : Int).toNat 0 % 15).toNat).1
theorem mostF_or (ds : List Int) : mostF ds = 12 ∨ mostF ds = 4 := by
  unfold mostF
  split
  · exact Or.inl rfl
  · exact Or.inr rfl
theorem cakesF_ok (c : Int) : OkC (cakesF c) := by
  obtain ⟨h1, h2, h3, h4⟩ := ckF_ok (ds := dgF c 30) (mostF_or (dgF c 30)) ((dgF c 30).getD (0 : Int).toNat 0 % 15).toNat
  exact ⟨h1, by unfold cakesF; rw [h2]; exact h3⟩
theorem cakesF_len (c : Int) : (cakesF c).length ≤ 14 := by
  obtain ⟨h1, h2, h3, h4⟩ := ckF_ok (ds := dgF c 30) (mostF_or (dgF c 30)) ((dgF c 30).getD (0 : Int).toNat 0 % 15).toNat
  unfold cakesF
  omega
theorem k_ifv {p : Prop} [Decidable p] {a b : Int} {σ : L2.St} {H : Hp} {Q : VK} (q : Q (.int (if p then a else b)) H) : if decide p = true then tC (.int a) σ H Q else tC (.int b) σ H Q := by
  by_cases h : p
  · rw [if_pos h] at q; rw [if_pos (decide_eq_true h)]; exact q
  · rw [if_neg h] at q; rw [if_neg (by simpa using h)]; exact q
end Mine
namespace Mine
open PySem PySem.Spec PyProof.Rows L2
open Evl (Ex)
def cutAt (s : Str) (c : Ck) (j : Nat) : Ck × Ck := if s = "left" then ((c.1, 1 + (j : Int)), (c.1, c.2 - (1 + (j : Int)))) else ((1 + (j : Int), c.2), (c.1 - (1 + (j : Int)), c.2))
theorem cutsC_at (s : Str) (c : Ck) : cutsC s c = (List.range ((if s = "left" then c.2 else c.1) - 1).toNat).map (cutAt s c) := by
  unfold cutsC
  by_cases z : s = "left"
  · rw [if_pos z, if_pos z]
    congr 1
    funext j
    unfold cutAt
    rw [if_pos z]
  · rw [if_neg z, if_neg z]
    congr 1
    funext j
    unfold cutAt
    rw [if_neg z]
theorem k_ifvar {p : Prop} [Decidable p] {i j : Nat} {a b : Int} {σ : L2.St} {H : Hp} {Q : VK} (hi : σ[i]? = some (some (.int a))) (hj : σ[j]? = some (some (.int b))) (q : Q (.int (if p then a else b)) H) : if decide p = true then tVar i σ H Q else tVar j σ H Q := by
  by_cases h : p
  · rw [if_pos h] at q; rw [if_pos (decide_eq_true h)]; exact k_var hi q
  · rw [if_neg h] at q; rw [if_neg (by simpa using h)]; exact k_var hj q
end Mine
namespace Mine
open PySem PySem.Spec PyProof.Rows L2
open Evl (Ex)
theorem sqs_rep : ∀ n : Nat, sqs (List.replicate n ((1, 1) : Ck)) = (n : Int)
  | 0 => rfl
  | n + 1 => by
    rw [List.replicate_succ, sqs_cons, sqs_rep n]
    show (1 : Int) * 1 + (n : Int) = _
    omega
theorem ok_rep {n : Nat} {c : Ck} (m : c ∈ List.replicate n ((1, 1) : Ck)) : OkK c := by
  rw [(List.mem_replicate.mp m).2]
  exact ⟨by decide, by decide, by decide, by decide⟩
theorem idx_mod {n : Nat} (h : 1 ≤ n) (c : Int) : ∃ k : Nat, c % (n : Int) = (k : Int) ∧ k < n := by
  have h1 := Int.emod_nonneg c (b := (n : Int)) (by omega)
  have h2 := Int.emod_lt_of_pos c (b := (n : Int)) (by omega)
  exact ⟨(c % (n : Int)).toNat, by omega, by omega⟩
end Mine
namespace Mine
open PySem PySem.Spec PyProof.Rows L2
open Evl (Ex)
theorem n_repA {K : PySem.W.Frag} {H : Hp} {Q : VK} {l : Addr} {k : Int} {xs : List V} (h : H l = some (.tup xs)) (ne : xs ≠ []) (k0 : 0 ≤ k) (k1 : k ≤ 1000) (x1 : xs.length ≤ 1000) (q : ∀ p H', Ex H H' → H' p = some (.tup (List.replicate k.toNat xs).flatten) → Q (.ref p) H') : rRepA K (.ref l) (.int k) H Q := by
  refine ⟨l, k, xs, rfl, rfl, k_st h, ne, k0, k1, x1, fun e => q l H (Evl.Ex.refl _) ?_, fun _ p np => q p _ (Evl.Ex.new np) upd_same⟩
  subst e
  rw [h]
  show some (HO.tup xs) = some (HO.tup (xs ++ []))
  rw [List.append_nil]
/-- the part of the dues that are parts -/
theorem due_parts {K : PySem.W.Frag} {σ : L2.St} {Q : VK} {H : Hp} {u : Addr} {xs : List V} {cs : List Ck} {i : Nat} (ht : H u = some (.tup xs)) (R : CsAt H xs cs) (l144 : cs.length ≤ 144)
    (w : ∀ x, wipe ((wipe σ [i]).set i (some x)) [i] = wipe σ [i]) (v : ∀ x, ((wipe σ [i]).set i (some x))[i]? = some (some x))
    (q : ∀ D ys H', H D = none → Ex H H' → H' D = some (.lst ys) → DsC H' ys (partsC cs) → Q (.ref D) H') :
    lcR (gName i) (tTest (tOp (rNeD K) (tVar i) (tTup (tCons (tC (.int 1)) (tCons (tC (.int 1)) tNil))))) (tTup (tCons (tC (.str "cakes")) (tCons (tTup (tCons (tVar i) tNil)) tNil))) [i] σ Q (Itt K u) H := by
  have xl := R.1
  intro D hD
  refine lc_tup (K := K) (a := u) (xs := xs) (fun j H' => ∃ ys, Ex H H' ∧ H' D = some (.lst ys) ∧ DsC H' ys (partsC (cs.take j))) ⟨[], Evl.Ex.new hD, upd_same, .nil⟩ (fun i H' _ ⟨_, e, _⟩ => k_st (e _ _ ht)) (fun j x H' hx p => ?_) (fun H' p => ?_)
  · obtain ⟨ys, e, hd, bs⟩ := p
    have hi := (List.getElem?_eq_some_iff.mp hx).1
    have gc := List.getElem?_eq_getElem (l := cs) (i := j) (by omega)
    obtain ⟨x', hx', ck⟩ := R.2 j _ gc
    rw [hx] at hx'
    injection hx' with hx'
    subst hx'
    have pt := parts_take gc
    generalize cs[j] = c at *
    have yl : ys.length ≤ j := by
      rw [bs.1]
      refine Nat.le_trans (parts_len _) ?_
      rw [List.length_take]; omega
    refine ⟨w _, ?_⟩
    rw [pt]
    refine k_test (k_op (k_var (v _) (k_tup (k_cons (k_c (k_cons (k_c (k_nil ?_))))))))
    refine ⟨fits (Nat.le_of_ble_eq_true rfl), fun p1 np1 => ?_⟩
    have e1 := Evl.Ex.new (o := HO.tup [V.int 1, V.int 1]) np1
    have s1 : upd H' p1 (HO.tup [V.int 1, V.int 1]) p1 = some (HO.tup [V.int 1, V.int 1]) := upd_same
    generalize upd H' p1 (HO.tup [V.int 1, V.int 1]) = H1 at *
    have hd1 := e1 _ _ hd
    have bs1 := bs.imp fun y c q => q.ex e1
    have ck1 := (ck.ex e).ex e1
    refine k_neCk (d := (1, 1)) ck1 ⟨p1, rfl, s1⟩ ⟨_, rfl, ?_⟩
    by_cases z : c = (1, 1)
    · rw [decide_eq_true z, if_pos z, List.append_nil, if_neg (show ¬ (!true) = true by decide)]
      exact ⟨ys, e.trans e1, hd1, bs1⟩
    · rw [decide_eq_false z, if_neg z]
      rw [if_pos (show (!false) = true from rfl)]
      refine k_tup (k_cons (k_c (k_cons (k_tup (k_cons (k_var (v _) (k_nil ?_)))))))
      refine ⟨fits (Nat.le_of_ble_eq_true rfl), fun p2 np2 => ?_⟩
      have e2 := Evl.Ex.new (o := HO.tup [x]) np2
      have s2 : upd H1 p2 (HO.tup [x]) p2 = some (HO.tup [x]) := upd_same
      generalize upd H1 p2 (HO.tup [x]) = H2 at *
      refine k_nil ?_
      refine ⟨fits (Nat.le_of_ble_eq_true rfl), fun p3 np3 => ?_⟩
      have e3 := Evl.Ex.new (o := HO.tup [V.str "cakes", V.ref p2]) np3
      have s3 : upd H2 p3 (HO.tup [V.str "cakes", V.ref p2]) p3 = some (HO.tup [V.str "cakes", V.ref p2]) := upd_same
      generalize upd H2 p3 (HO.tup [V.str "cakes", V.ref p2]) = H3 at *
      have e23 := e2.trans e3
      have hd3 := e23 _ _ hd1
      have bs3 := (bs1.imp fun y c q => q.ex e23).app (.one (P := DuC) (c := [c]) ⟨p3, p2, _, rfl, s3, e3 _ _ s2, .one (ck1.ex e23)⟩)
      refine ⟨ys, hd3, fits' (by omega), ys ++ [V.ref p3], Evl.Ex.mut ((e.trans e1).trans e23) hD, upd_same, ?_⟩
      exact bs3.imp fun y c q => q.keep (H' := upd H3 D (HO.lst (ys ++ [V.ref p3]))) fun c o q n => (upd_ne (fun e => n _ (by rw [e, hd3] at q; exact (Option.some.inj q).symm))).trans q
  · obtain ⟨ys, e, hd, bs⟩ := p
    rw [xl, List.take_of_length_le (Nat.le_refl _)] at bs
    exact q D ys H' hD e hd bs
end Mine
namespace Mine
open PySem PySem.Spec PyProof.Rows L2
open PySem.AutoSeq1
/-! enumerate(a text of signs below 128) -/
/-- a text of signs below 128 -/
def Asc7 (x : Str) : Prop := strIterType x = "str_ascii_iterator"
def IteS (x : Str) : It :=
  ⟨fun i H => i < x.cps.size, fun i H v H' => ∃ T c, v = .ref T ∧ H T = none ∧ H' = upd H T (.tup [.int (i : Nat), .str ⟨#[c]⟩]) ∧ x.cps[i]? = some c, fun i H => x.cps.size ≤ i⟩
theorem turn_enumS {P : Program} {w : World} {K : PySem.W.Frag} {elts : List Expr} {kk : Nat} {tpos : Pos} (x : Str) (t : Tok) (e it : Addr) :
    Turn P w K (.Tuple elts kk tpos) (IteS x) [e, it] e (fun i h => (∃ old, IsEnum h e it ((i : Nat) : Int) old) ∧ h.IsStrIter it "str_ascii_iterator" x t i ∧ e ≠ it ∧ i ≤ x.cps.size) where
  mem := by simp
  obj := fun i h st b hb => by
    obtain ⟨⟨old, he⟩, ⟨o, ho, hc, hd⟩, _⟩ := st
    rcases (show b = e ∨ b = it by simpa using hb) with z | z
    · rw [z]; exact ⟨_, he, fun v q => nomatch q⟩
    · rw [z]; exact ⟨o, ho, fun v q => by rw [hd] at q; cases q⟩
  keep := fun i h h' st k => let ⟨⟨old, he⟩, ⟨o, ho, hc, hd⟩, hne⟩ := st; ⟨⟨old, k e (by simp) _ he⟩, ⟨o, k it (by simp) o ho, hc, hd⟩, hne⟩
  item := by
    intro X hP hw hK hc i pins s σ H E I hf st hg
    subst hP hw hK
    obtain ⟨⟨old, he⟩, hit, hne, hle⟩ := st
    have hi : i < x.cps.size := hg
    have hel : e < s.heap.objs.size := Heap.lt_size he
    have hil : it < s.heap.objs.size := by obtain ⟨_, q, _⟩ := hit; exact Heap.lt_size q
    have D := Draws.strAscii (prog := X.prog) (w := X.w) (A := X.A.in1) (I.ok.hd hc) it x t
    refine wpAny_pyNext_enum_itemC D he hit hi hne (by simp [hne]) fun y h' tk hy ho st' hT hsz hk => ?_
    refine ⟨_, rfl, wpAny_letOwnedTupleGo_enum (s := { s with heap := h', toks := tk + 1 }) ho fun h'' he' sb => ?_⟩
    have hT2 : h''.get? s.heap.objs.size = some { cls := .type "tuple", data := .seq #[.int i tk, y] } := (sb.2 _ (Nat.ne_of_gt hel)).trans hT
    obtain ⟨c, u, hcx, ey⟩ := hy
    subst ey
    have new : ObjOk X.prog X.w (upd H s.heap.objs.size (.tup [.int (i : Nat), .str ⟨#[c]⟩])) h'' s.heap.objs.size (.tup [.int (i : Nat), .str ⟨#[c]⟩]) :=
      ⟨by show 2 ≤ sizeLine; decide, [.int i tk, .str ⟨#[c]⟩ u], .cons ⟨_, rfl⟩ (.cons ⟨_, rfl⟩ .nil), ⟨_, hT2, rfl, _, rfl⟩⟩
    have I1 : Inv X pins σ (upd H s.heap.objs.size (.tup [.int (i : Nat), .str ⟨#[c]⟩])) { s with heap := h'', toks := tk + 1 } :=
      I.turnedNew (ch := [e, it]) (fun b ob hb q => (sb.2 b (fun z => hb (by simp [z]))).trans (hk b ob (fun z => hb (by simp [z])) (fun z => hb (by simp [z])) q)) hf (Nat.le_refl _) new
    refine ⟨.ref s.heap.objs.size, _, I1, rfl, ⟨_, c, rfl, I.hok.fresh (Nat.le_refl _), rfl, hcx⟩, ⟨⟨.str ⟨#[c]⟩ u, ?_⟩, ?_, hne, hi⟩, fun b hb => ?_⟩
    · have e1 : ((i + 1 : Nat) : Int) = (i : Int) + 1 := by omega
      rw [e1]; exact he'
    · obtain ⟨o, ho2, hc2, hd2⟩ := st'
      exact ⟨o, (sb.2 it (Ne.symm hne)).trans ho2, hc2, hd2⟩
    · have hb' : b < s.heap.objs.size := by
        rcases (show b = e ∨ b = it by simpa using hb) with z | z
        · rw [z]; exact hel
        · rw [z]; exact hil
      rw [upd_ne (Nat.ne_of_lt hb')]
      exact (hf b hb).1
  done := by
    intro X hP hw hK hc i pins s σ H E I hf st hg
    subst hP hw hK
    obtain ⟨⟨old, he⟩, hit, hne, hle⟩ := st
    have hi : i = x.cps.size := Nat.le_antisymm hle hg
    subst hi
    obtain ⟨f0, f1, f2, f3, f4, f5⟩ := hf it (by simp)
    have D := Draws.strAscii (prog := X.prog) (w := X.w) (A := X.A.in1) (I.ok.hd hc) it x t
    exact wpAny_pyNext_enum_endD D he hit fun h' eb => ⟨rfl, I.turned (t' := s.toks) (fun b o hb q => eb b o hb q) f0 f1 f3 f4 f5⟩
  self := fun A i s Q E st h => let ⟨⟨_, he⟩, _⟩ := st; wpAny_pyIter_enum he h
def iEnumS (ta : TA) : TI := fun σ H R => ta σ H fun vs H1 => ∃ x, vs = [.str x] ∧ Asc7 x ∧ R (IteS x) H1
theorem pi_enumS {X : Cx} {e : Expr} {ta : TA} {p pos tpos : Pos} {elts : List Expr} {kk : Nat} (hg : Gl X "enumerate") (hm : X.mg "enumerate" = none) (ha : PA X [e] ta) (hs : starEach [e] X.env = [(false, eval e X.env)] := by rfl) :
    PI X (.Tuple elts kk tpos) (.Call (.Name "enumerate" p) [e] [] pos) (iEnumS ta) := by
  constructor
  intro pins s σ H R I h
  refine Call_ (ld_blt I hg hm boot_enumerate (PyProof.Rows.callWith_type1 (thn (ha.run pos pins s σ H _ I h) ?_) hs rfl))
  rintro us s1 ⟨vs, H1, I1, r1, x, rfl, hx, q⟩
  cases r1 with
  | cons r rr =>
    cases rr
    obtain ⟨t, rfl⟩ := r
    refine enum1_begins (begins_text x t) trivial fun h' he hit hk => wpAny_pyIter_enum he ?_
    have I2 : Inv X pins σ H1 { s1 with heap := h' } := I1.kept (t' := s1.toks) hk
    refine ⟨s1.heap.objs.size + 1, [s1.heap.objs.size + 1, s1.heap.objs.size], _, _, H1, rfl, I2, turn_enumS x t (s1.heap.objs.size + 1) s1.heap.objs.size, ⟨⟨.none, he⟩, ⟨_, hit, by rw [← hx], rfl⟩, Nat.succ_ne_self _, Nat.zero_le _⟩, fun b hb => ?_, q⟩
    have hle : s1.heap.objs.size ≤ b := by
      rcases (show b = s1.heap.objs.size + 1 ∨ b = s1.heap.objs.size by simpa using hb) with z | z
      · rw [z]; exact Nat.le_add_right _ _
      · rw [z]; exact Nat.le_refl _
    exact I1.fpOk hle (I1.hok.fresh hle)
theorem for_enumS {g : TG} {tb : TS} {D : Ends} {σ : L2.St} {H : Hp} {x : Str} (Pv : Nat → L2.St → Hp → Prop) (h0 : Pv 0 σ H)
    (hs : ∀ i c σ' H' T, x.cps[i]? = some c → Pv i σ' H' → H' T = none → g (.ref T) σ' (upd H' T (.tup [.int (i : Nat), .str ⟨#[c]⟩])) fun σ2 H2 => tb { D with nx := Pv (i + 1), ct := Pv (i + 1), bk := D.nx } σ2 H2) (hd : ∀ σ' H', Pv x.cps.size σ' H' → D.nx σ' H') : forK g tb D σ (IteS x) H := by
  refine ⟨fun i m σ H => i ≤ x.cps.size ∧ m = x.cps.size - i ∧ Pv i σ H, ⟨x.cps.size, Nat.zero_le _, by omega, h0⟩, ?_⟩
  rintro i m σ H ⟨hi, rfl, p⟩
  rcases Nat.lt_or_ge i x.cps.size with h | h
  · refine Or.inr ⟨h, Pv (i + 1), fun σ' H' p' => ⟨x.cps.size - (i + 1), by omega, h, rfl, p'⟩, ?_⟩
    rintro v H' ⟨T, c, rfl, hT, rfl, hx⟩
    exact hs i c σ H T hx p hT
  · have e : i = x.cps.size := by omega
    subst e
    exact Or.inl ⟨Nat.le_refl _, hd σ H p⟩
end Mine
namespace Mine
open PySem PySem.Spec PyProof.Rows L2
/-! list(a text) -/
def sign (c : Nat) : V := .str ⟨#[c]⟩
def rListS : List V → Hp → VK → Prop := fun xs H Q => ∃ x : Str, xs = [.str x] ∧ x.cps.size ≤ 1000 ∧ ∀ l, H l = none → Q (.ref l) (upd H l (.lst (x.cps.toList.map sign)))
theorem signs_vals {x : Str} {acc : Array Value} (h : ItemsOf (SignAt x) acc x.cps.size) : Vals (x.cps.toList.map sign) acc.toList := by
  obtain ⟨hs, hi⟩ := h
  have gen : ∀ (cs : List Nat) (us : List Value), cs.length = us.length → (∀ (j : Nat) (v : Value), us[j]? = some v → ∃ c u, cs[j]? = some c ∧ v = Value.str ⟨#[c]⟩ u) → Vals (cs.map sign) us := by
    intro cs
    induction cs with
    | nil =>
      intro us l _
      cases us with
      | nil => exact .nil
      | cons u us => cases l
    | cons c cs ih =>
      intro us l h
      cases us with
      | nil => cases l
      | cons u us =>
        obtain ⟨c', t, hc, hv⟩ := h 0 u rfl
        cases hc
        refine .cons ⟨t, hv⟩ (ih us (by simpa using l) fun j v hj => ?_)
        exact h (j + 1) v hj
  refine gen _ _ (by simp [hs]) fun j v hj => ?_
  obtain ⟨c, u, h1, h2⟩ := hi j v (by simpa using hj)
  exact ⟨c, u, by simpa using h1, h2⟩
theorem cr_listS {X : Cx} (hc : X.calm = true) : CallR X (.type "list") rListS := by
  rintro pins s σ H xs us Q I rv ⟨x, rfl, l1, q⟩
  cases rv with
  | cons r rr =>
    cases rr
    obtain ⟨t, rfl⟩ := r
    refine callType_codes F.called_list (F.typeCall_list_1 _) F.entry_list_init (Q₁ := fun obj s1 => obj = .ref s.heap.objs.size ∧ s1 = { s with heap := s.heap.push { cls := .type "list", data := .seq #[] } }) (code_list_new _ ⟨rfl, rfl⟩) ?_
    rintro obj s1 ⟨rfl, rfl⟩
    have new := Heap.get?_push_size s.heap (o := { cls := .type "list", data := .seq #[] }) rfl
    refine ⟨⟨_, new, rfl⟩, F.args_list_init_2 _ _, ?_⟩
    refine wpAny_list_init_str (A := X.A.in1) (s := { s with heap := s.heap.push { cls := .type "list", data := .seq #[] } }) (I.ok.hd hc) x t s.heap.objs.size new (fun h' tk acc c' hk hl items => ?_) (Nat.le_trans l1 (by decide))
    refine ⟨rfl, .ref _, upd H s.heap.objs.size (.lst (x.cps.toList.map sign)), ?_, rfl, q _ (I.hok.fresh (Nat.le_refl _))⟩
    refine I.laid (t' := tk) (fun b u hb => hk b u (fun e => by have h := Heap.lt_size hb; rw [e] at h; exact Nat.lt_irrefl _ h) (Heap.get?_push_of_some _ hb)) (Nat.le_refl _) ?_
    exact ⟨by rw [List.length_map]; exact Nat.le_trans (show x.cps.toList.length ≤ 1000 by simpa using l1) (by decide), acc.toList, c', signs_vals items, by simpa using hl⟩
end Mine
namespace Mine
open PySem PySem.Spec PyProof.Rows L2
/-- sep.join(a list of texts) -/
def rJoinS (K : PySem.W.Frag) : V → List V → Hp → VK → Prop := fun x xs H Q => ∃ a p, ∃ ys : List Str, x = .str a ∧ xs = [.ref p] ∧ (SqL K H p (ys.map V.str) ∨ SqT K H p (ys.map V.str)) ∧ (ys.map (·.length)).sum + ys.length * a.length ≤ 16777216 ∧ Q (.str (Txt.join a ys)) H
theorem mt_joinS {X : Cx} : MtR X "str.join" (rJoinS X.K) := mt_join
/-- the text of these signs -/
def tx (l : List Nat) : Str := ⟨l.toArray⟩
theorem tx_len (l : List Nat) : (tx l).length = l.length := by
  show l.toArray.size = _
  simp
theorem tx_cps (l : List Nat) : (tx l).cps.toList = l := by
  show l.toArray.toList = _
  simp
theorem tx_size (l : List Nat) : (tx l).cps.size = l.length := by
  show l.toArray.size = _
  simp
theorem tx_cat (a b : List Nat) : tx a ++ tx b = tx (a ++ b) := by
  show (⟨a.toArray ++ b.toArray⟩ : Str) = ⟨(a ++ b).toArray⟩
  rw [List.append_toArray]
theorem tx_inj {a b : List Nat} : tx a = tx b ↔ a = b := by
  constructor
  · intro h
    have := congrArg (fun z : Str => z.cps.toList) h
    simpa [tx] using this
  · intro h; rw [h]
theorem tx_cut (l : List Nat) (lo hi : Option Int) : cutS (tx l) lo hi = tx ((l.drop (HT.sIx l.length 0 lo)).take (HT.sIx l.length l.length hi - HT.sIx l.length 0 lo)) := by
  unfold cutS
  rw [tx_len, tx_cps]
  rfl
theorem tx_join (l : List Nat) : Txt.join (tx []) (l.map fun c => tx [c]) = tx l := by
  have gen : ∀ (cs : List Nat) (a : Array Nat), List.foldl (fun (acc : Array Nat) (p : Str) => acc ++ (tx []).cps ++ p.cps) a (cs.map fun c => tx [c]) = a ++ cs.toArray := by
    intro cs
    induction cs with
    | nil => intro a; simp
    | cons c cs ih =>
      intro a
      rw [List.map_cons, List.foldl_cons, ih]
      simp [tx]
  unfold Txt.join Builtin.Str.glued
  cases l with
  | nil => rfl
  | cons c cs =>
    show (⟨List.foldl (fun (acc : Array Nat) (p : Str) => acc ++ (tx []).cps ++ p.cps) (tx [c]).cps (cs.map fun c => tx [c])⟩ : Str) = _
    rw [gen]
    simp [tx]
end Mine
namespace Mine
open PySem PySem.Spec PyProof.Rows L2
open PySem.W (Frag)
/-! dicts, tuples and texts of the program's head -/
/-- d[k], d a dict of the head with texts as keys -/
def rKD (K : Frag) (d : Addr) : R2 := fun x y H Q => ∃ z u0 v0, x = .ref d ∧ y = .str z ∧ PySem.W.nsIn K d z = some (some u0) ∧ RelV v0 u0 ∧ Q v0 H
theorem ix_kd {X : Cx} {d : Addr} (D : ∃ es n, KDict X.K X.w d es n) : IxR X (rKD X.K d) := by
  obtain ⟨es, n, D⟩ := D
  rintro value slice pins s σ H x y v u Q I rx ry ⟨z, u0, v0, rfl, rfl, h1, h2, q⟩ hs
  have e : v = .ref d := rx
  subst e
  exact tail_any (T := "dict") (kd_type D I) F.slot_dict_getitem.lookup (op_item_kd D pins s σ H (.ref d) (.str z) (.ref d) u Q I rx ry ⟨z, u0, v0, rfl, rfl, h1, h2, q⟩) hs
/-- the items of a tuple of the head -/
def valsL : List V → List Value → Bool
  | [], [] => true
  | x :: xs, u :: us => He.relB x u && valsL xs us
  | _, _ => false
theorem valsL_ok : ∀ {xs : List V} {us : List Value}, valsL xs us = true → Vals xs us
  | [], [], _ => .nil
  | x :: xs, u :: us, h => by
    have h' : (He.relB x u && valsL xs us) = true := h
    rw [Bool.and_eq_true] at h'
    exact .cons (He.relB_ok h'.1) (valsL_ok h'.2)
  | [], _ :: _, h => by cases h
  | _ :: _, [], h => by cases h
def tupB (K : Frag) (a : Addr) (xs : List V) : Bool := match K.lookup a with
  | some ⟨cls, _, .seq its _, _⟩ => decide (cls = .type "tuple") && (decide (its.size ≤ 1000) && valsL xs its.toList)
  | _ => false
theorem tupB_ok {K : Frag} {a : Addr} {xs : List V} (h : tupB K a xs = true) (H : Hp) : SqT K H a xs := by
  unfold tupB at h
  split at h
  · rename_i cls dd its n sl e
    rw [Bool.and_eq_true, Bool.and_eq_true] at h
    exact Or.inr ⟨_, its, n, e, of_decide_eq_true h.1, rfl, Nat.le_trans (of_decide_eq_true h.2.1) (by decide), valsL_ok h.2.2⟩
  · cases h
/-- the tuple behind a key of a dict of the head -/
def kdA (K : Frag) (d k : Str) : Addr := match PySem.W.nsIn K (He.ga K d) k with
  | some (some (.ref a)) => a
  | _ => 0
def kdB (K : Frag) (d k : Str) (xs : List V) : Bool := match PySem.W.nsIn K (He.ga K d) k with
  | some (some (.ref a)) => tupB K a xs
  | _ => false
theorem kdB_ok {K : Frag} {d k : Str} {xs : List V} (h : kdB K d k xs = true) : PySem.W.nsIn K (He.ga K d) k = some (some (.ref (kdA K d k))) ∧ ∀ H, SqT K H (kdA K d k) xs := by
  unfold kdB at h
  unfold kdA
  split at h
  · rename_i a e
    rw [e]
    exact ⟨rfl, tupB_ok h⟩
  · cases h
theorem k_kd {K : Frag} {d k : Str} {xs : List V} {H : Hp} {Q : VK} (h : PySem.W.nsIn K (He.ga K d) k = some (some (.ref (kdA K d k))) ∧ ∀ H, SqT K H (kdA K d k) xs) (q : Q (.ref (kdA K d k)) H) : rKD K (He.ga K d) (.ref (He.ga K d)) (.str k) H Q :=
  ⟨k, _, .ref _, rfl, rfl, h.1, rfl, q⟩
theorem cst_okS {X : Cx} {x : Str} {z : Str} (h : ∃ t, X.mg x = some (.str z t)) : ∃ u, X.mg x = some u ∧ RelV (.str z) u :=
  let ⟨t, h⟩ := h; ⟨_, h, t, rfl⟩
/-! the head's facts with dicts -/
abbrev AlM : Type := He.AlD × List (Option (List (Option (Str × Int))))
def obsMT (fs : List (Frag → Bool)) (fn : List He5.DefA) (ts : List He.Tab) (K : Frag) : AlM := (obsM fs fn K, ts.map fun t => He.dicW K (t.1 K))
def valMT (fn : List He5.DefA) (ts : List He.Tab) (w : World) : AlM := (He5.valA fn, ts.map fun t => some (He.keysIn w.params t.2))
def SaysMT (fs : List (Frag → Bool)) (fn : List He5.DefA) (ts : List He.Tab) (w : World) (K : Frag) : Prop := obsMT fs fn ts K = valMT fn ts w
def obsMTG (n : Nat) (fs : List (Frag → Bool)) (fn : List He5.DefA) (ts : List He.Tab) (g : Addr → Option Obj) : AlM := obsMT fs fn ts (He.frG g (He5.asA g n))
@[reducible] def hookMT (n : Nat) (fs : List (Frag → Bool)) (fn : List He5.DefA) (ts : List He.Tab) : PySem.W.Hook where
  α := AlM
  obs s := obsMTG n fs fn ts s.heap.get?
  val w := valMT fn ts w
  says w h := ∃ K : Frag, K.In h ∧ SaysMT fs fn ts w K
  of _ _ e := ⟨_, He.frG_in, e⟩
  keeps _ _ _ := fun ⟨K, hK, c⟩ k => ⟨K, PySem.W.Frag.In.keeps hK k, c⟩
theorem obsMTG_eq {n : Nat} {fs : List (Frag → Bool)} {fn : List He5.DefA} {ts : List He.Tab} {g : Addr → Option Obj} {s : Shared} (h : ∀ a, g a = s.heap.get? a) :
    obsMTG n fs fn ts g = (hookMT n fs fn ts).obs s := by
  have e : g = s.heap.get? := funext h
  subst e
  rfl
theorem SaysMT.m {fs : List (Frag → Bool)} {fn : List He5.DefA} {ts : List He.Tab} {w : World} {K : Frag} (c : SaysMT fs fn ts w K) : SaysM fs fn K := congrArg (fun z : AlM => z.1) c
theorem SaysMT.tab {fs : List (Frag → Bool)} {fn : List He5.DefA} {ts : List He.Tab} {w : World} {K : Frag} (c : SaysMT fs fn ts w K) (i : Nat) {t : He.Tab} (h : ts[i]? = some t) : ∃ es n, KDict K w (t.1 K) es n := by
  have e := congrArg (fun z : AlM => z.2[i]?) c
  have e2 : (ts.map fun t => He.dicW K (t.1 K))[i]? = (ts.map fun t => some (He.keysIn w.params t.2))[i]? := e
  simp only [List.getElem?_map, h, Option.map_some, Option.some.injEq] at e2
  exact He.dicW_ok e2
end Mine
namespace Mine
open PySem PySem.Spec PyProof.Rows L2
open Evl (Ex)
/-! rows of toads and frogs: T is 84, F is 70, a free place is 46 -/
structure FFrogs (K : PySem.W.Frag) : Prop where
  cl : Cls K (He.ga K "Frogs")
  na : NoAttr K (He.ga K "Frogs") "_line"
structure FSIGNS (K : PySem.W.Frag) : Prop where
  tu : ∀ H, SqT K H (He.ga K "SIGNS") [.str "T", .str "F", .str "."]
structure FMOVERS (K : PySem.W.Frag) : Prop where
  l : PySem.W.nsIn K (He.ga K "MOVERS") "left" = some (some (.ref (kdA K "MOVERS" "left"))) ∧ ∀ H, SqT K H (kdA K "MOVERS" "left") [.str "T", .str "F", .int 1]
  r : PySem.W.nsIn K (He.ga K "MOVERS") "right" = some (some (.ref (kdA K "MOVERS" "right"))) ∧ ∀ H, SqT K H (kdA K "MOVERS" "right") [.str "F", .str "T", .int (-1)]
def gfs (l : Str) : List (Str × V) := putF "_line" (.str l) []
theorem gfs_get (l : Str) : (gfs l).lookup ("_line" : Str) = some (.str l) := by
  unfold gfs
  rw [lookup_putF, if_pos rfl]
theorem gfs_no (l : Str) {m : Str} (h : ¬ m = "_line") : (gfs l).lookup m = none := by
  unfold gfs
  rw [lookup_putF, if_neg h]
  rfl
theorem s_T : ("T" : Str) = tx [84] := rfl
theorem s_F : ("F" : Str) = tx [70] := rfl
theorem s_dot : ("." : Str) = tx [46] := rfl
def OkL (l : List Nat) : Prop := l.length ≤ 12 ∧ ∀ c ∈ l, c = 84 ∨ c = 70 ∨ c = 46
theorem OkL.asc {l : List Nat} (h : OkL l) : Asc7 (tx l) := by
  unfold Asc7 strIterType tx
  rw [if_pos]
  rw [List.all_toArray, List.all_eq_true]
  intro c m
  rcases h.2 c m with rfl | rfl | rfl <;> rfl
/-- a board -/
def FgAt (K : PySem.W.Frag) (H : Hp) (b : Addr) (l : List Nat) : Prop := ∃ dx, H b = some (.ins (He.ga K "Frogs") dx (gfs (tx l)))
theorem FgAt.keep {K : PySem.W.Frag} {H H' : Hp} {b : Addr} {l : List Nat} (h : FgAt K H b l) (k : ∀ c o, H c = some o → (∀ ys, o ≠ .lst ys) → H' c = some o) : FgAt K H' b l := let ⟨dx, h1⟩ := h; ⟨dx, k _ _ h1 (fun ys z => by cases z)⟩
theorem FgAt.ex {K : PySem.W.Frag} {H H' : Hp} {b : Addr} {l : List Nat} (h : FgAt K H b l) (e : Ex H H') : FgAt K H' b l := h.keep fun c o z _ => e c o z
def FgV (K : PySem.W.Frag) (H : Hp) (y : V) (l : List Nat) : Prop := ∃ b, y = .ref b ∧ FgAt K H b l
theorem FgV.keep {K : PySem.W.Frag} {H H' : Hp} {y : V} {l : List Nat} (h : FgV K H y l) (k : ∀ c o, H c = some o → (∀ ys, o ≠ .lst ys) → H' c = some o) : FgV K H' y l := let ⟨b, r, z⟩ := h; ⟨b, r, z.keep k⟩
theorem FgV.ex {K : PySem.W.Frag} {H H' : Hp} {y : V} {l : List Nat} (h : FgV K H y l) (e : Ex H H') : FgV K H' y l := h.keep fun c o z _ => e c o z
def DuF (H : Hp) (y : V) (l : List Nat) : Prop := ∃ d, y = .ref d ∧ H d = some (.tup [.str "frogs", .str (tx l)])
theorem DuF.keep {H H' : Hp} {y : V} {l : List Nat} (h : DuF H y l) (k : ∀ c o, H c = some o → (∀ ys, o ≠ .lst ys) → H' c = some o) : DuF H' y l := let ⟨d, r, z⟩ := h; ⟨d, r, k _ _ z (fun ys z => by cases z)⟩
theorem DuF.ex {H H' : Hp} {y : V} {l : List Nat} (h : DuF H y l) (e : Ex H H') : DuF H' y l := h.keep fun c o z _ => e c o z
abbrev BsF (K : PySem.W.Frag) (H : Hp) (ys : List V) (ls : List (List Nat)) : Prop := AllAt (FgV K) H ys ls
abbrev DsF (H : Hp) (ys : List V) (ls : List (List Nat)) : Prop := AllAt DuF H ys ls
/-! moves -/
def atL (l : List Nat) (i : Int) : Option Nat := if 0 ≤ i then l[i.toNat]? else none
theorem atL_nat (l : List Nat) (i : Nat) : atL l (i : Int) = l[i]? := by
  unfold atL
  rw [if_pos (by omega), Int.toNat_natCast]
def ownF (s : Str) : Nat := if s = "left" then 84 else 70
def jumF (s : Str) : Nat := if s = "left" then 70 else 84
def stpF (s : Str) : Int := if s = "left" then 1 else -1
def tgt (s : Str) (l : List Nat) (p : Nat) : Option Int := if atL l (p + stpF s) = some 46 then some (p + stpF s) else if atL l (p + stpF s) = some (jumF s) ∧ atL l (p + 2 * stpF s) = some 46 then some (p + 2 * stpF s) else none
def mvL (s : Str) (l : List Nat) (p : Nat) (q : Int) : List Nat := (l.set p 46).set q.toNat (ownF s)
def mvAtF (s : Str) (l : List Nat) (p : Nat) : List (List Nat) := if l[p]? = some (ownF s) then (tgt s l p).toList.map (mvL s l p) else []
def mvsF (s : Str) (l : List Nat) : List (List Nat) := (List.range l.length).flatMap (mvAtF s l)
theorem tgt_in {s : Str} {l : List Nat} {p : Nat} {q : Int} (h : tgt s l p = some q) : 0 ≤ q ∧ q < l.length ∧ atL l q = some 46 := by
  have key : ∀ i : Int, atL l i = some 46 → 0 ≤ i ∧ i < l.length ∧ atL l i = some 46 := by
    intro i hi
    have hi0 := hi
    unfold atL at hi
    split at hi
    · have := (List.getElem?_eq_some_iff.mp hi).1
      exact ⟨by omega, by omega, hi0⟩
    · cases hi
  unfold tgt at h
  split at h
  · rename_i h1
    cases h
    exact key _ h1
  · split at h
    · rename_i h1
      cases h
      exact key _ h1.2
    · cases h
theorem mvAt_len (s : Str) (l : List Nat) (p : Nat) : (mvAtF s l p).length ≤ 1 := by
  unfold mvAtF
  split
  · rw [List.length_map]
    cases tgt s l p <;> simp
  · simp
theorem mvsF_len (s : Str) (l : List Nat) (n : Nat) : ((List.range n).flatMap (mvAtF s l)).length ≤ n := by
  induction n with
  | zero => exact Nat.le_refl _
  | succ n ih =>
    rw [List.range_succ, List.flatMap_append, List.length_append, List.flatMap_cons, List.flatMap_nil, List.append_nil]
    have := mvAt_len s l n
    omega
theorem mvL_ok {s : Str} {l : List Nat} (ok : OkL l) (p : Nat) (q : Int) : OkL (mvL s l p q) := by
  refine ⟨by unfold mvL; rw [List.length_set, List.length_set]; exact ok.1, fun c m => ?_⟩
  unfold mvL at m
  rcases List.mem_or_eq_of_mem_set m with m | rfl
  · rcases List.mem_or_eq_of_mem_set m with m | rfl
    · exact ok.2 c m
    · exact Or.inr (Or.inr rfl)
  · unfold ownF
    split
    · exact Or.inl rfl
    · exact Or.inr (Or.inl rfl)
end Mine
namespace Mine
open PySem PySem.Spec PyProof.Rows L2
/-! each move takes something away -/
def phi : List Nat → Nat
  | [] => 0
  | c :: l => (if c = 84 then l.count 46 + l.count 70 else if c = 46 then l.count 70 else 0) + phi l
def cross (a b : List Nat) : Nat := a.count 84 * (b.count 46 + b.count 70) + a.count 46 * b.count 70
theorem phi_app (a b : List Nat) : phi (a ++ b) = phi a + cross a b + phi b := by
  induction a with
  | nil => simp [phi, cross]
  | cons c a ih =>
    show (if c = 84 then (a ++ b).count 46 + (a ++ b).count 70 else if c = 46 then (a ++ b).count 70 else 0) + phi (a ++ b) = (if c = 84 then a.count 46 + a.count 70 else if c = 46 then a.count 70 else 0) + phi a + cross (c :: a) b + phi b
    rw [ih, List.count_append, List.count_append]
    unfold cross
    by_cases h1 : c = 84
    · subst h1
      rw [if_pos rfl, if_pos rfl, List.count_cons_self, List.count_cons_of_ne (by decide), Nat.add_mul]
      omega
    · by_cases h2 : c = 46
      · subst h2
        rw [if_neg (by decide), if_pos rfl, if_neg (by decide), if_pos rfl, List.count_cons_of_ne (by decide), List.count_cons_self, Nat.add_mul]
        omega
      · rw [if_neg h1, if_neg h2, if_neg h1, if_neg h2, List.count_cons_of_ne h1, List.count_cons_of_ne h2]
        omega
theorem phi_mid {A B m m' : List Nat} (h1 : m.count 84 = m'.count 84) (h2 : m.count 46 = m'.count 46) (h3 : m.count 70 = m'.count 70) (h : phi m' + 1 ≤ phi m) : phi (A ++ m' ++ B) + 1 ≤ phi (A ++ m ++ B) := by
  rw [phi_app, phi_app, phi_app, phi_app]
  unfold cross
  rw [List.count_append, List.count_append, List.count_append, List.count_append, h1, h2, h3]
  omega
theorem phiF_le : ∀ l : List Nat, phi l ≤ l.count 84 * l.count 46 + l.count 84 * l.count 70 + l.count 46 * l.count 70
  | [] => by simp [phi]
  | c :: l => by
    have ih := phiF_le l
    show (if c = 84 then l.count 46 + l.count 70 else if c = 46 then l.count 70 else 0) + phi l ≤ _
    by_cases h1 : c = 84
    · subst h1
      rw [if_pos rfl, List.count_cons_self, List.count_cons_of_ne (by decide), List.count_cons_of_ne (by decide), Nat.add_mul, Nat.add_mul]
      omega
    · by_cases h2 : c = 46
      · subst h2
        rw [if_neg (by decide), if_pos rfl, List.count_cons_of_ne (by decide), List.count_cons_self, List.count_cons_of_ne (by decide), Nat.add_mul, Nat.mul_add]
        omega
      · rw [if_neg h1, if_neg h2, List.count_cons_of_ne h1, List.count_cons_of_ne h2]
        by_cases h3 : c = 70
        · subst h3
          rw [List.count_cons_self, Nat.mul_add, Nat.mul_add]
          omega
        · rw [List.count_cons_of_ne h3]
          omega
theorem counts_le : ∀ l : List Nat, l.count 84 + l.count 46 + l.count 70 ≤ l.length
  | [] => by simp
  | c :: l => by
    have ih := counts_le l
    rw [List.length_cons]
    by_cases h1 : c = 84
    · subst h1
      rw [List.count_cons_self, List.count_cons_of_ne (by decide), List.count_cons_of_ne (by decide)]; omega
    · by_cases h2 : c = 46
      · subst h2
        rw [List.count_cons_of_ne (by decide), List.count_cons_self, List.count_cons_of_ne (by decide)]; omega
      · by_cases h3 : c = 70
        · subst h3
          rw [List.count_cons_of_ne (by decide), List.count_cons_of_ne (by decide), List.count_cons_self]; omega
        · rw [List.count_cons_of_ne h1, List.count_cons_of_ne h2, List.count_cons_of_ne h3]; omega
theorem three_le : ∀ a, a ≤ 12 → ∀ b, b ≤ 12 → ∀ c, c ≤ 12 → a + b + c ≤ 12 → a * b + a * c + b * c ≤ 48 := by
  decide +kernel
theorem phi_48 {l : List Nat} (h : l.length ≤ 12) : phi l ≤ 48 := by
  have h1 := phiF_le l
  have h2 := counts_le l
  exact Nat.le_trans h1 (three_le _ (by omega) _ (by omega) _ (by omega) (by omega))
theorem split2 {l : List Nat} {p x y : Nat} (h1 : l[p]? = some x) (h2 : l[p + 1]? = some y) : l = l.take p ++ [x, y] ++ l.drop (p + 2) := by
  have l2 := (List.getElem?_eq_some_iff.mp h2).1
  have a1 := (List.getElem?_eq_some_iff.mp h1).2
  have a2 := (List.getElem?_eq_some_iff.mp h2).2
  have e1 : l.drop p = x :: l.drop (p + 1) := by rw [List.drop_eq_getElem_cons (by omega), a1]
  have e2 : l.drop (p + 1) = y :: l.drop (p + 2) := by rw [List.drop_eq_getElem_cons (by omega), a2]
  rw [List.append_assoc]
  show l = l.take p ++ (x :: y :: l.drop (p + 2))
  rw [← e2, ← e1, List.take_append_drop]
theorem split3 {l : List Nat} {p x y z : Nat} (h1 : l[p]? = some x) (h2 : l[p + 1]? = some y) (h3 : l[p + 2]? = some z) : l = l.take p ++ [x, y, z] ++ l.drop (p + 3) := by
  have l3 := (List.getElem?_eq_some_iff.mp h3).1
  have a3 := (List.getElem?_eq_some_iff.mp h3).2
  have e3 : l.drop (p + 2) = z :: l.drop (p + 3) := by rw [List.drop_eq_getElem_cons (by omega), a3]
  have e := split2 h1 h2
  rw [List.append_assoc] at e ⊢
  show l = l.take p ++ (x :: y :: z :: l.drop (p + 3))
  rw [← e3]
  exact e
theorem set_in {A B m : List Nat} {i v : Nat} (h : i < m.length) : (A ++ m ++ B).set (A.length + i) v = A ++ m.set i v ++ B := by
  rw [List.append_assoc, List.set_append_right _ _ (by omega), Nat.add_sub_cancel_left, List.set_append_left _ _ h, ← List.append_assoc]
end Mine
namespace Mine
open PySem PySem.Spec PyProof.Rows L2
theorem atL_some {l : List Nat} {i : Int} {c : Nat} (h : atL l i = some c) : ∃ n : Nat, i = (n : Int) ∧ l[n]? = some c := by
  unfold atL at h
  split at h
  · exact ⟨i.toNat, by omega, h⟩
  · cases h
theorem set2 {A B : List Nat} {x y v w : Nat} {p q i j : Nat} {m : List Nat} (hp : p = A.length + i) (hq : q = A.length + j) (hi : i < m.length) (hj : j < m.length) : ((A ++ m ++ B).set p v).set q w = A ++ (m.set i v).set j w ++ B := by
  subst hp hq
  rw [set_in hi, set_in (by rw [List.length_set]; exact hj)]
theorem phi_mv {s : Str} {l : List Nat} {p : Nat} {q : Int} (hp : l[p]? = some (ownF s)) (h : tgt s l p = some q) : phi (mvL s l p q) + 1 ≤ phi l := by
  have lp := (List.getElem?_eq_some_iff.mp hp).1
  unfold tgt at h
  unfold mvL
  by_cases z : s = "left"
  · have o : ownF s = 84 := by unfold ownF; rw [if_pos z]
    have u : jumF s = 70 := by unfold jumF; rw [if_pos z]
    have t : stpF s = 1 := by unfold stpF; rw [if_pos z]
    rw [o] at hp ⊢
    rw [u, t] at h
    split at h
    · rename_i h1
      cases h
      obtain ⟨n, en, hn⟩ := atL_some h1
      have e : n = p + 1 := by omega
      subst e
      have tl : (l.take p).length = p := by rw [List.length_take]; omega
      have sp := split2 hp hn
      generalize l.take p = A at *
      generalize l.drop (p + 2) = B at *
      subst sp
      rw [set2 (x := 0) (y := 0) (i := 0) (j := 1) (by omega) (by omega) (by decide) (by decide)]
      exact phi_mid (by decide) (by decide) (by decide) (by decide)
    · split at h
      · rename_i h2
        obtain ⟨h1, h2⟩ := h2
        cases h
        obtain ⟨n, en, hn⟩ := atL_some h1
        obtain ⟨n2, en2, hn2⟩ := atL_some h2
        have e : n = p + 1 := by omega
        have e2 : n2 = p + 2 := by omega
        subst e e2
        have tl : (l.take p).length = p := by rw [List.length_take]; omega
        have sp := split3 hp hn hn2
        generalize l.take p = A at *
        generalize l.drop (p + 3) = B at *
        subst sp
        rw [set2 (x := 0) (y := 0) (i := 0) (j := 2) (by omega) (by omega) (by decide) (by decide)]
        exact phi_mid (by decide) (by decide) (by decide) (by decide)
      · cases h
  · have o : ownF s = 70 := by unfold ownF; rw [if_neg z]
    have u : jumF s = 84 := by unfold jumF; rw [if_neg z]
    have t : stpF s = -1 := by unfold stpF; rw [if_neg z]
    rw [o] at hp ⊢
    rw [u, t] at h
    split at h
    · rename_i h1
      cases h
      obtain ⟨n, en, hn⟩ := atL_some h1
      have e : p = n + 1 := by omega
      subst e
      have tl : (l.take n).length = n := by rw [List.length_take]; omega
      have sp := split2 hn hp
      generalize l.take n = A at *
      generalize l.drop (n + 2) = B at *
      subst sp
      rw [set2 (x := 0) (y := 0) (i := 1) (j := 0) (by omega) (by omega) (by decide) (by decide)]
      exact phi_mid (by decide) (by decide) (by decide) (by decide)
    · split at h
      · rename_i h2
        obtain ⟨h1, h2⟩ := h2
        cases h
        obtain ⟨n, en, hn⟩ := atL_some h1
        obtain ⟨n2, en2, hn2⟩ := atL_some h2
        have e : p = n2 + 2 := by omega
        have e2 : n = n2 + 1 := by omega
        subst e e2
        have tl : (l.take n2).length = n2 := by rw [List.length_take]; omega
        have sp := split3 hn2 hn hp
        generalize l.take n2 = A at *
        generalize l.drop (n2 + 3) = B at *
        subst sp
        rw [set2 (x := 0) (y := 0) (i := 2) (j := 0) (by omega) (by omega) (by decide) (by decide)]
        exact phi_mid (by decide) (by decide) (by decide) (by decide)
      · cases h
theorem mvsF_phi {s : Str} {l : List Nat} : ∀ m ∈ mvsF s l, phi m + 1 ≤ phi l := by
  intro m h
  obtain ⟨p, _, h⟩ := List.mem_flatMap.mp h
  unfold mvAtF at h
  split at h
  · rename_i hp
    obtain ⟨q, hq, rfl⟩ := List.mem_map.mp h
    rw [Option.mem_toList] at hq
    exact phi_mv hp hq
  · cases h
theorem mvsF_ok {s : Str} {l : List Nat} (ok : OkL l) : ∀ m ∈ mvsF s l, OkL m := by
  intro m h
  obtain ⟨p, _, h⟩ := List.mem_flatMap.mp h
  unfold mvAtF at h
  split at h
  · obtain ⟨q, hq, rfl⟩ := List.mem_map.mp h
    exact mvL_ok ok p q
  · cases h
end Mine
namespace Mine
open PySem PySem.Spec PyProof.Rows L2
open Sem (wp)
/-! {x}: a set of one int -/
def tSet1 (w : World) (te : TE) : TE := fun σ H Q => ∀ p, H p = none → te σ (upd H p (SetO w p (fun _ => false) 0)) fun v H1 => ∃ k : Int, v = V.int k ∧ H1 p = some (SetO w p (fun _ => false) 0) ∧ Q (.ref p) (upd H1 p (SetO w p (fun j => decide (j = k)) 1))
theorem code_kds {K : PySem.W.Frag} {cd : Value} {q : Str} (h : PySem.W.codeIn K cd q = true) : PySem.W.kdsCode K cd = true := by
  unfold PySem.W.codeIn at h
  unfold PySem.W.kdsCode
  split at h
  · split at h
    · rename_i e
      dsimp only
      rw [e]
    · cases h
  · cases h
theorem pe_set1 {X : Cx} {e : Expr} {te : TE} {pos : Pos} (hc : PySem.W.kdsCode X.K X.env.code = true) (he : PE X e te) (hs : starEach [e] X.env = [(false, eval e X.env)] := by rfl) : PE X (.Set [e] 0 pos) (tSet1 X.w te) := by
  refine ⟨fun pins s σ H Q I h => ?_⟩
  rw [arm_eval_Set]
  refine wpAny_bind (wpAny_standAt ?_)
  refine wpAny_bind (PySem.W.kds_main (I.kIn) hc fun b => ?_)
  rw [hs]
  unfold setDisplay
  dsimp only
  have road : (displayRoad 0 [e] == DisplayRoad.constants) = false := rfl
  rw [road, if_neg (by decide)]
  refine wpAny_bind (wpAny_newSet_raw fun led hl => ?_)
  subst hl
  have hn := I.hok.fresh (Nat.le_refl s.heap.objs.size)
  have R0 := setR_fresh (h := s.heap) X.w
  have I1 := I.laid (a := s.heap.objs.size) (o := SetO X.w s.heap.objs.size (fun _ => false) 0) (t' := s.toks) (fun _ _ q => Heap.get?_push_of_some _ q) (Nat.le_refl _) (setO_new R0)
  refine wpAny_bind (wpAny_holding ?_)
  refine wpAny_bind (m := evalAll [(do let v ← eval e X.env; standAt pos; pure v)]) ?_
  refine wpAny_mono (PySem.W.kds_all (env := X.env) pos [e] _ (fun vs s' => ∃ (k : Int) (tk : Tok) (H1 : Hp), vs = [Value.int k tk] ∧ Inv X pins σ H1 s' ∧ H1 s.heap.objs.size = some (SetO X.w s.heap.objs.size (fun _ => false) 0) ∧ Q (.ref s.heap.objs.size) (upd H1 s.heap.objs.size (SetO X.w s.heap.objs.size (fun j => decide (j = k)) 1))) ?_) (fun vs s' h' => ?_) fun _ _ x => x
  · refine thn (he.run pins _ σ _ _ I1 (h _ hn)) fun u s1 z => ?_
    obtain ⟨v, H1, I2, rv, k, rfl, hp, q⟩ := z
    obtain ⟨tk, rfl⟩ := rv
    exact ⟨k, tk, H1, rfl, I2, hp, q⟩
  · obtain ⟨k, tk, H1, rfl, I2, hp, q⟩ := h'
    refine wpAny_bind (wpAny_holding ?_)
    refine wpAny_bind ?_
    rw [List.forIn_cons]
    refine wpAny_bind (wpAny_bind ?_)
    unfold setAdd
    refine wpAny_holding ?_
    refine wpAny_bind ((intKind X.prog X.w).pyHash (k := k) (intKind_is _ _ _ _) ?_)
    refine setR_add_hashed (s := { s' with toks := s'.toks + 1 }) (show SetR X.w s'.heap s.heap.objs.size (fun _ => false) 0 from setO_get I2 hp) (by decide) fun h' sb R => ?_
    refine wpAny_pure ?_
    dsimp only
    rw [List.forIn_nil]
    refine wpAny_pure ?_
    have road2 : (displayRoad 0 [e] == DisplayRoad.unsure) = false := rfl
    rw [road2, if_neg (by decide)]
    refine wpAny_pure ?_
    show wpAny _ _ (forIn [] _ _ >>= _) _ _ _
    rw [List.forIn_nil]
    refine wpAny_pure (wpAny_pure ?_)
    have hex : ∃ u, h'.get? s.heap.objs.size = some u := by
      have ⟨o, _, _, _, ho, _⟩ := R
      exact ⟨o, ho⟩
    have R2 : SetR X.w h' s.heap.objs.size (fun j => decide (j = k)) 1 := R.congr fun j => by simp
    exact ⟨.ref s.heap.objs.size, _, I2.write (x := s.heap.objs.size) (e := s.heap.objs.size) (t' := s'.toks + 1) (by rw [hp]; exact True.intro) (.inl rfl) (fun b u hb y => (sb.2 b hb).trans y) hex (setO_new R2), rfl, q⟩
/-- a def whose body asks for its own code -/
theorem okC {P : Program} {w : World} {K : PySem.W.Frag} {mg : Str → Option Value} {base : Heap} {x qual : Str} {params : Arguments} {body : List Stmt} {scope : Scope} {dvs : List V} {kws : List (Str × V)} {f : Addr} {fd : FuncData} {CX : CXT} {N ps : List Str} {k : Nat} {sp : Sp}
    (F : FunD K x qual params body scope dvs kws f fd) (S : FnScope N ps scope) (len : ∀ vs H Q E, sp vs H Q E → vs.length = ps.length)
    (hbody : ∀ (cdv : Value), PySem.W.kdsCode K cdv = true → ∀ (A : Around) (outer : List Env) (s : Shared) (H : Hp) (vs : List V) (Q : VK) (E : XK), Room k (A.deeper (envOfC qual scope s.heap.objs.size f cdv)) → sp vs H Q E →
      ∃ t, PSs (cxOf CX P w K mg base N qual scope f cdv A outer s H E) body t ∧ t { nx := fun _ H' => Q .non H', rt := Q } (start N vs) H) : FnOk P w K mg base CX (k + 1) f fd ps sp := by
  obtain ⟨_, _, _, _, _, _, _, cdv, _, _, rfl, lk, hcd, _⟩ := F.ex
  exact fn_of lk hcd S len fun A outer s H vs Q E hr hsp => hbody cdv (code_kds hcd) A outer s H vs Q E hr hsp
end Mine
namespace Mine
open PySem PySem.Spec PyProof.Rows L2
open Evl (Ex)
section
variable {H : Hp} {Q : VK} {K : PySem.W.Frag} {w : World} {σ : L2.St}
theorem k_dnew (q : ∀ p, H p = none → Q (.ref p) (upd H p (.dK []))) : tDNewK σ H Q := q
theorem k_set1 {te : TE} (q : ∀ p, H p = none → te σ (upd H p (SetO w p (fun _ => false) 0)) fun v H1 => ∃ k : Int, v = V.int k ∧ H1 p = some (SetO w p (fun _ => false) 0) ∧ Q (.ref p) (upd H1 p (SetO w p (fun j => decide (j = k)) 1))) : tSet1 w te σ H Q := q
theorem k_sadd {te : TE} {t : TA} (q : te σ H fun x H1 => (∃ a S n, x = V.ref a ∧ H1 a = some (SetO w a S n)) ∧ t σ H1 fun xs H2 => rSAdd w x xs H2 Q) : tSAdd w te t σ H Q := q
theorem k_sIn {k : Int} {a : Addr} {S : Int → Bool} {n : Nat} (h : H a = some (SetO w a S n)) (q : Q (.bl (S k)) H) : rSIn w (.int k) (.ref a) H Q := ⟨k, a, S, n, rfl, rfl, h, q⟩
theorem k_sNot {k : Int} {a : Addr} {S : Int → Bool} {n : Nat} (h : H a = some (SetO w a S n)) (q : Q (.bl (!S k)) H) : rSNotIn w (.int k) (.ref a) H Q := ⟨k, a, S, n, rfl, rfl, h, q⟩
theorem k_gsub {to ti : TE} {t : TSet} {v : V} {R : L2.St → Hp → Prop} (q : to σ H fun o H1 => ti σ H1 fun i H2 => t o i v H2 fun H3 => R σ H3) : gSub to ti t v σ H R := q
theorem k_rng3 {ta : TA} {R : It → Hp → Prop} (q : ta σ H fun vs H1 => ∃ (i j c : Int) (n : Nat), vs = [V.int i, V.int j, V.int c] ∧ RgC i j c n ∧ R (Itc i c n) H1) : iRng3 ta σ H R := q
theorem k_tru {te : TE} {R : Bool → Hp → Prop} (q : te σ H fun x H' => ∃ k, TruV K x H' k ∧ R k H') : tTru K te σ H R := q
theorem tru_L {a : Addr} {xs : List V} {R : Bool → Prop} (h : SqL K H a xs) (q : R (!xs.isEmpty)) : ∃ k, TruV K (.ref a) H k ∧ R k := ⟨_, Or.inl ⟨xs, h, rfl⟩, q⟩
theorem k_rSAdd {a : Addr} {k : Int} {S : Int → Bool} {n : Nat} (h : H a = some (SetO w a S n)) (l : n ≤ 1000) (no : S k = false) (q : Q .non (upd H a (SetO w a (fun j => S j || decide (j = k)) (n + 1)))) : rSAdd w (.ref a) [.int k] H Q :=
  ⟨a, k, S, n, rfl, rfl, h, Nat.lt_of_le_of_lt (Nat.succ_le_succ l) (by decide), by rw [if_neg (by rw [no]; decide)]; exact q⟩
theorem k_rPop {l : Addr} {xs : List V} {y : V} (h : H l = some (.lst (xs ++ [y]))) (q : Q y (upd H l (.lst xs))) : rPop (.ref l) [] H Q :=
  ⟨l, xs ++ [y], y, rfl, rfl, h, by rw [List.length_append, List.length_singleton, Nat.add_sub_cancel, List.getElem?_append_right (Nat.le_refl _), Nat.sub_self]; rfl, by rw [List.dropLast_concat]; exact q⟩
theorem forK_tup {g : TG} {tb : TS} {D : Ends} {a : Addr} {xs : List V} (Pv : Nat → L2.St → Hp → Prop) (h0 : Pv 0 σ H) (hl : ∀ i σ' H', i ≤ xs.length → Pv i σ' H' → SqT K H' a xs)
    (hs : ∀ i x σ' H', xs[i]? = some x → Pv i σ' H' → g x σ' H' fun σ2 H2 => tb { D with nx := Pv (i + 1), ct := Pv (i + 1), bk := D.nx } σ2 H2) (hd : ∀ σ' H', Pv xs.length σ' H' → D.nx σ' H') : forK g tb D σ (Itt K a) H := for_tup Pv h0 hl hs hd
end
end Mine
namespace Mine
open PySem PySem.Spec PyProof.Rows L2
open Evl (Ex)
def rRepS : R2 := fun x y H Q => ∃ z n, x = .str z ∧ y = .int n ∧ MulOk z n ∧ Q (.str (Txt.mul z n)) H
theorem op_rep_str {X : Cx} : OpR X (binaryOp .Mult) rRepS := by
  rintro pins s σ H x y v u Q I rx ry ⟨z, n, rfl, rfl, ok, q⟩
  obtain ⟨t, rfl⟩ := rx
  obtain ⟨t', rfl⟩ := ry
  exact SB.mul ok fun t'' k => ⟨.str _, H, I.tok _, ⟨t'', rfl⟩, q⟩
section
variable {H : Hp} {K : PySem.W.Frag} {Q : VK}
theorem k_lenX {l : List Nat} (h : l.length ≤ 3000) (q : Q (.int (l.length : Nat)) H) : rLenS [.str (tx l)] H Q :=
  ⟨tx l, rfl, by rw [tx_len]; exact fits h, by rw [tx_len]; exact q⟩
theorem k_catX {a b : List Nat} (h : a.length + b.length ≤ 3000) (q : Q (.str (tx (a ++ b))) H) : rCatS (.str (tx a)) (.str (tx b)) H Q :=
  ⟨tx a, tx b, rfl, rfl, by rw [tx_len, tx_len]; exact fits h, by rw [tx_cat]; exact q⟩
theorem k_ixX {l : List Nat} {i : Int} {c : Nat} (h : l.length ≤ 3000) (e : atI l i = some c) (q : Q (.str (tx [c])) H) : rIxS (.str (tx l)) (.int i) H Q :=
  ⟨tx l, i, c, rfl, rfl, by rw [tx_len]; exact fits h, by rw [tx_cps]; exact e, q⟩
theorem k_slX {l : List Nat} {lo hi : Option Int} (h : l.length ≤ 3000) (q : Q (.str (tx ((l.drop (HT.sIx l.length 0 lo)).take (HT.sIx l.length l.length hi - HT.sIx l.length 0 lo)))) H) : rSlS (.str (tx l)) lo hi H Q :=
  ⟨tx l, rfl, by rw [tx_len]; exact fits h, by rw [tx_cut]; exact q⟩
theorem k_eqX {a b : List Nat} (q : Q (.bl (decide (a = b))) H) : rEq (.str (tx a)) (.str (tx b)) H Q := ⟨rfl, by
  have e : decide (V.str (tx a) = V.str (tx b)) = decide (a = b) := decide_eq_decide.mpr ⟨fun h => tx_inj.mp (V.str.inj h), fun h => by rw [h]⟩
  rw [e]; exact q⟩
theorem k_neX {a b : List Nat} (q : Q (.bl (!decide (a = b))) H) : rNe (.str (tx a)) (.str (tx b)) H Q := ⟨rfl, by
  have e : decide (V.str (tx a) = V.str (tx b)) = decide (a = b) := decide_eq_decide.mpr ⟨fun h => tx_inj.mp (V.str.inj h), fun h => by rw [h]⟩
  first
    | (rw [← e] at q; exact q)
    | (show Q _ H; rw [← e] at q; simpa using q)⟩
theorem k_eqNX {b : Str} (q : Q (.bl false) H) : rEq .non (.str b) H Q := ⟨rfl, by
  have e : decide (V.non = V.str b) = false := decide_eq_false (fun h => by cases h)
  rw [e]; exact q⟩
theorem k_inX {c : Nat} {b : List Nat} (q : Q (.bl (decide (c ∈ b))) H) : rInS (.str (tx [c])) (.str (tx b)) H Q :=
  ⟨c, tx b, rfl, rfl, by rw [tx_cps]; exact q⟩
def okc (c : Nat) : Bool := decide (c = 84) || (decide (c = 70) || decide (c = 46))
theorem k_signs (F : FSIGNS K) {c : Nat} (q : Q (.bl (okc c)) H) : rIn K false (.str (tx [c])) (.ref (He.ga K "SIGNS")) H Q := by
  refine ⟨_, _, rfl, Or.inr (F.tu H), rfl, rfl, ?_⟩
  have e : inV (V.str (tx [c])) [.str "T", .str "F", .str "."] = okc c := by
    have key : ∀ d : Nat, eqV (V.str (tx [d])) (V.str (tx [c])) = decide (c = d) := by
      intro d
      show decide (tx [d] = tx [c]) = _
      refine decide_eq_decide.mpr ⟨fun h => ?_, fun h => by rw [h]⟩
      have := tx_inj.mp h
      injection this with h1
      exact h1.symm
    show (eqV (V.str (tx [84])) (V.str (tx [c])) || (eqV (V.str (tx [70])) (V.str (tx [c])) || (eqV (V.str (tx [46])) (V.str (tx [c])) || false))) = _
    rw [key, key, key, Bool.or_false]
    rfl
  rw [e]
  exact q
theorem k_allX {a : Addr} {bs : List Bool} (h : SqL K H a (bs.map V.bl)) (q : Q (.bl (bs.all id)) H) : rAll K [.ref a] H Q := ⟨a, bs, rfl, h, q⟩
theorem k_joinX {p : Addr} {l : List Nat} (h : SqL K H p (l.map fun c => V.str (tx [c]))) (few : l.length ≤ 3000) (q : Q (.str (tx l)) H) : rJoinS K (.str "") [.ref p] H Q := by
  refine ⟨tx [], p, l.map fun c => tx [c], rfl, rfl, Or.inl (by rw [List.map_map]; exact h), ?_, by rw [tx_join]; exact q⟩
  have e : (l.map fun c => tx [c]).map (·.length) = l.map fun _ => 1 := by
    rw [List.map_map]
    refine List.map_congr_left fun c _ => ?_
    show (tx [c]).length = 1
    rw [tx_len]; rfl
  have s : ∀ l : List Nat, (l.map fun _ => 1).sum = l.length := by
    intro l
    induction l with
    | nil => rfl
    | cons c l ih => rw [List.map_cons, List.sum_cons, ih, List.length_cons]; omega
  rw [e, s, List.length_map]
  have z : (tx []).length = 0 := rfl
  rw [z]
  omega
end
section
variable {g : TG} {tt : TT} {te : TE} {vs : List Nat} {σ : L2.St} {Q : VK} {H1 : Hp} {K : PySem.W.Frag}
theorem lcR_str {l : List Nat} (f : Nat → Option V) (len : l.length ≤ 3000) (t : ∀ (i c : Nat), l[i]? = some c → turnR g tt te vs σ (.str (tx [c])) (f c) H1)
    (q : ∀ D H', H1 D = none → Ex H1 H' → H' D = some (.lst (l.filterMap f)) → Q (.ref D) H') : lcR g tt te vs σ Q (Its (tx l)) H1 := by
  intro D hD
  refine ⟨fun i m H => i ≤ l.length ∧ m = l.length - i ∧ Ex H1 H ∧ H D = some (.lst ((l.take i).filterMap f)), ⟨l.length, Nat.zero_le _, by omega, Evl.Ex.new hD, upd_same⟩, ?_⟩
  rintro i m H ⟨hi, rfl, p⟩
  rcases Nat.lt_or_ge i l.length with h | h
  · refine Or.inr ⟨by show i < (tx l).cps.size; rw [tx_size]; exact h, fun H' => i + 1 ≤ l.length ∧ Ex H1 H' ∧ H' D = some (.lst ((l.take (i + 1)).filterMap f)), fun H' p' => ⟨l.length - (i + 1), by omega, by omega, rfl, p'.2⟩, ?_⟩
    rintro x H' ⟨rfl, c, hc, rfl⟩
    have hc' : l[i]? = some c := by
      have : (tx l).cps.toList[i]? = some c := by simpa using hc
      rw [tx_cps] at this
      exact this
    refine turn_in (t i c hc') p.1 hD p.2 (fits' ?_) fun H2 e h' => ⟨h, e, ?_⟩
    · refine Nat.le_trans (List.length_filterMap_le _ _) ?_
      rw [List.length_take]; omega
    · rw [h', List.take_add_one, hc', List.filterMap_append]
      cases h : f c <;> simp [h]
  · have e : i = l.length := by omega
    subst e
    refine Or.inl ⟨by show (tx l).cps.size ≤ l.length; rw [tx_size]; exact Nat.le_refl _, ?_⟩
    refine q D H hD p.1 ?_
    rw [p.2, List.take_of_length_le (Nat.le_refl _)]
theorem k_istr {te : TE} {R : It → Hp → Prop} {H : Hp} {σ : L2.St} (q : te σ H fun v H1 => ∃ x, v = .str x ∧ R (Its x) H1) : iStr te σ H R := q
end
end Mine
namespace Mine
open PySem PySem.Spec PyProof.Rows L2
open Evl (Ex)
def sgV : Option Nat → V
  | some c => .str (tx [c])
  | none => .non
def tgV : Option Int → V
  | some q => .int q
  | none => .non
def tgG (l : List Nat) (p : Nat) (j : Nat) (st : Int) : Option Int := if atL l (p + st) = some 46 then some (p + st) else if atL l (p + st) = some j ∧ atL l (p + 2 * st) = some 46 then some (p + 2 * st) else none
theorem tgt_G (s : Str) (l : List Nat) (p : Nat) : tgt s l p = tgG l p (jumF s) (stpF s) := rfl
theorem k_eqSg {H : Hp} {Q : VK} {o : Option Nat} {d : Nat} (q : Q (.bl (decide (o = some d))) H) : rEq (sgV o) (.str (tx [d])) H Q := by
  cases o with
  | none => exact k_eqNX q
  | some c =>
    refine k_eqX ?_
    have e : decide ([c] = [d]) = decide (some c = some d) := decide_eq_decide.mpr ⟨fun h => by injection h with h; rw [h], fun h => by injection h with h; rw [h]⟩
    rw [e]; exact q
theorem map_sign (l : List Nat) : l.map sign = l.map fun c => V.str (tx [c]) := rfl
end Mine
namespace Mine
open PySem PySem.Spec PyProof.Rows L2
theorem k_tyX {K : PySem.W.Frag} {H : Hp} {a : Str} {P : Prop} (q : P) : tyV K "str" (.str a) H ∧ P := ⟨by first | exact Or.inr ⟨rfl, a, rfl⟩ | exact Or.inr (Or.inl ⟨rfl, a, rfl⟩) | (unfold tyV; simp), q⟩
end Mine
namespace Mine
open PySem PySem.Spec PyProof.Rows L2
open Evl (Ex)
theorem ok_str {l : List Nat} (ok : OkL l) : PyData.strOk (tx l) = true := by
  unfold PyData.strOk tx
  rw [List.all_toArray, List.all_eq_true]
  intro c m
  rcases ok.2 c m with rfl | rfl | rfl <;> rfl
/-! the rows that the law draws -/
def signsF (k : Nat) : List Nat := match k with
  | 0 => [84, 70, 46]
  | 1 => [84, 70, 46, 46]
  | 2 => [84, 70, 84, 70, 46]
  | _ => [84, 46, 70]
theorem signsF_ok (k : Nat) : 3 ≤ (signsF k).length ∧ (signsF k).length ≤ 5 ∧ ∀ c ∈ signsF k, c = 84 ∨ c = 70 ∨ c = 46 := by
  match k with
  | 0 => exact ⟨by decide, by decide, by decide⟩
  | 1 => exact ⟨by decide, by decide, by decide⟩
  | 2 => exact ⟨by decide, by decide, by decide⟩
  | k + 3 => exact ⟨by show 3 ≤ 3; decide, by show 3 ≤ 5; decide, by show ∀ c ∈ [84, 46, 70], c = 84 ∨ c = 70 ∨ c = 46; decide⟩
def lineD (ds : List Int) : List Nat := (List.range (ds.getD (0 : Int).toNat 0 % 13).toNat).map fun (k : Nat) => (signsF (ds.getD (13 : Int).toNat 0 % 4).toNat).getD (ds.getD (1 + (k : Int)).toNat 0 % ((signsF (ds.getD (13 : Int).toNat 0 % 4).toNat).length : Int)).toNat 0
def lineF (c : Int) : List Nat := lineD (dgF c 14)
theorem lineD_ok (ds : List Int) : OkL (lineD ds) := by
  refine ⟨by unfold lineD; rw [List.length_map, List.length_range]; omega, fun c m => ?_⟩
  unfold lineD at m
  obtain ⟨k, _, rfl⟩ := List.mem_map.mp m
  obtain ⟨s1, s2, s3⟩ := signsF_ok (ds.getD (13 : Int).toNat 0 % 4).toNat
  generalize signsF (ds.getD (13 : Int).toNat 0 % 4).toNat = sg at *
  have h1 := Int.emod_nonneg (ds.getD (1 + (k : Int)).toNat 0) (b := (sg.length : Int)) (by omega)
  have h2 := Int.emod_lt_of_pos (ds.getD (1 + (k : Int)).toNat 0) (b := (sg.length : Int)) (by omega)
  have lt : (ds.getD (1 + (k : Int)).toNat 0 % (sg.length : Int)).toNat < sg.length := by omega
  rw [List.getD_eq_getElem?_getD, List.getElem?_eq_getElem lt]
  exact s3 _ (List.getElem_mem lt)
theorem lineF_ok (c : Int) : OkL (lineF c) := lineD_ok _
/-! the law's way to the moves -/
def pd (l : List Nat) : List Nat := [35, 35] ++ l ++ [35, 35]
theorem pd_at {l : List Nat} {j : Int} (h1 : -2 ≤ j) (h2 : j ≤ l.length + 1) : atI (pd l) (2 + j) = some ((atL l j).getD 35) := by
  obtain ⟨n, hn⟩ : ∃ n : Nat, 2 + j = (n : Int) := ⟨(2 + j).toNat, by omega⟩
  rw [hn]
  refine atI_nat ?_
  unfold pd atL
  rcases (show n < 2 ∨ (2 ≤ n ∧ n < l.length + 2) ∨ l.length + 2 ≤ n by omega) with h | ⟨h, h'⟩ | h
  · rw [if_neg (by omega), List.append_assoc, List.getElem?_append_left (by show n < 2; exact h)]
    match n with
    | 0 => rfl
    | 1 => rfl
  · rw [if_pos (by omega), List.append_assoc, List.getElem?_append_right (by show 2 ≤ n; exact h), List.getElem?_append_left (by show n - 2 < _; omega)]
    have e : j.toNat = n - 2 := by omega
    show l[n - 2]? = _
    rw [e, List.getElem?_eq_getElem (by omega)]; rfl
  · have e1 : l[j.toNat]? = none := List.getElem?_eq_none (by omega)
    have e2 : ([35, 35] ++ l).length = 2 + l.length := by rw [List.length_append]; rfl
    rw [if_pos (by omega), e1, List.getElem?_append_right (by omega), e2]
    show [35, 35][n - (2 + l.length)]? = some 35
    have e : n - (2 + l.length) = 0 ∨ n - (2 + l.length) = 1 := by omega
    rcases e with e | e <;> rw [e] <;> rfl
theorem getD_46 {o : Option Nat} : [o.getD 35] = [46] ↔ o = some 46 := by
  cases o with
  | none => simp
  | some c => simp
def gl (s : Str) (l : List Nat) (i : Nat) : Option Int := if l[i]? = some (ownF s) then tgt s l i else none
theorem mvAt_gl (s : Str) (l : List Nat) (i : Nat) : mvAtF s l i = (gl s l i).toList.map (mvL s l i) := by
  unfold mvAtF gl
  split
  · rfl
  · rfl
def glV (s : Str) (l : List Nat) (i : Nat) : Int := match gl s l i with
  | some q => q + 2
  | none => -1
theorem k_ifC {p : Prop} [Decidable p] {a b : V} {σ : L2.St} {H : Hp} {Q : VK} (q : Q (if p then a else b) H) : if decide p = true then tC a σ H Q else tC b σ H Q := by
  by_cases h : p
  · rw [if_pos h] at q; rw [if_pos (decide_eq_true h)]; exact q
  · rw [if_neg h] at q; rw [if_neg (by simpa using h)]; exact q
theorem k_ifU {p : Prop} [Decidable p] {σ : L2.St} {H : Hp} {Q : VK} (q : Q (.int (if p then 1 else -1)) H) : if decide p = true then tC (.int 1) σ H Q else tUn rNegI (tC (.int 1)) σ H Q := by
  by_cases h : p
  · rw [if_pos h] at q; rw [if_pos (decide_eq_true h)]; exact q
  · rw [if_neg h] at q; rw [if_neg (by simpa using h)]
    exact k_un (k_c (k_U q))
end Mine
namespace Mine
open PySem PySem.Spec PyProof.Rows L2
open Evl (Ex)
/-! floors: a free cell is 46, a covered one 35 -/
structure FFloor (K : PySem.W.Frag) : Prop where
  cl : Cls K (He.ga K "Floor")
  na : NoAttr K (He.ga K "Floor") "_rows"
structure FSHAPES (K : PySem.W.Frag) : Prop where
  l : PySem.W.nsIn K (He.ga K "SHAPES") "left" = some (some (.ref (kdA K "SHAPES" "left"))) ∧ ∀ H, SqT K H (kdA K "SHAPES" "left") [.int 1, .int 0]
  r : PySem.W.nsIn K (He.ga K "SHAPES") "right" = some (some (.ref (kdA K "SHAPES" "right"))) ∧ ∀ H, SqT K H (kdA K "SHAPES" "right") [.int 0, .int 1]
def gfl (t : Addr) : List (Str × V) := putF "_rows" (.ref t) []
theorem gfl_get (t : Addr) : (gfl t).lookup ("_rows" : Str) = some (.ref t) := by
  unfold gfl
  rw [lookup_putF, if_pos rfl]
theorem gfl_no (t : Addr) {m : Str} (h : ¬ m = "_rows") : (gfl t).lookup m = none := by
  unfold gfl
  rw [lookup_putF, if_neg h]
  rfl
abbrev Fl := List (List Nat)
def rowsV (rs : Fl) : List V := rs.map fun r => V.str (tx r)
theorem rowsV_len (rs : Fl) : (rowsV rs).length = rs.length := List.length_map _
theorem rowsV_at {rs : Fl} {i : Nat} {r : List Nat} (h : rs[i]? = some r) : (rowsV rs)[i]? = some (.str (tx r)) := by
  unfold rowsV; rw [List.getElem?_map, h]; rfl
def OkR (w : Nat) (r : List Nat) : Prop := r.length = w ∧ ∀ c ∈ r, c = 46 ∨ c = 35
structure OkF (rs : Fl) (w : Nat) : Prop where
  n1 : 1 ≤ rs.length
  n6 : rs.length ≤ 6
  w1 : 1 ≤ w
  w6 : w ≤ 6
  ok : ∀ r ∈ rs, OkR w r
theorem OkF.at {rs : Fl} {w : Nat} (h : OkF rs w) {i : Nat} (hi : i < rs.length) : ∃ r, rs[i]? = some r ∧ OkR w r :=
  ⟨rs[i], List.getElem?_eq_getElem hi, h.ok _ (List.getElem_mem hi)⟩
/-- a board -/
def FlAt (K : PySem.W.Frag) (H : Hp) (b : Addr) (rs : Fl) : Prop := ∃ dx t, H b = some (.ins (He.ga K "Floor") dx (gfl t)) ∧ H t = some (.tup (rowsV rs))
theorem FlAt.keep {K : PySem.W.Frag} {H H' : Hp} {b : Addr} {l : Fl} (h : FlAt K H b l) (k : ∀ c o, H c = some o → (∀ ys, o ≠ .lst ys) → H' c = some o) : FlAt K H' b l :=
  let ⟨dx, t, h1, h2⟩ := h; ⟨dx, t, k _ _ h1 (fun ys z => by cases z), k _ _ h2 (fun ys z => by cases z)⟩
theorem FlAt.ex {K : PySem.W.Frag} {H H' : Hp} {b : Addr} {l : Fl} (h : FlAt K H b l) (e : Ex H H') : FlAt K H' b l := h.keep fun c o z _ => e c o z
def FlV (K : PySem.W.Frag) (H : Hp) (y : V) (l : Fl) : Prop := ∃ b, y = .ref b ∧ FlAt K H b l
theorem FlV.keep {K : PySem.W.Frag} {H H' : Hp} {y : V} {l : Fl} (h : FlV K H y l) (k : ∀ c o, H c = some o → (∀ ys, o ≠ .lst ys) → H' c = some o) : FlV K H' y l := let ⟨b, r, z⟩ := h; ⟨b, r, z.keep k⟩
theorem FlV.ex {K : PySem.W.Frag} {H H' : Hp} {y : V} {l : Fl} (h : FlV K H y l) (e : Ex H H') : FlV K H' y l := h.keep fun c o z _ => e c o z
def DuL (H : Hp) (y : V) (l : Fl) : Prop := ∃ d t, y = .ref d ∧ H d = some (.tup [.str "floor", .ref t]) ∧ H t = some (.tup (rowsV l))
theorem DuL.keep {H H' : Hp} {y : V} {l : Fl} (h : DuL H y l) (k : ∀ c o, H c = some o → (∀ ys, o ≠ .lst ys) → H' c = some o) : DuL H' y l := let ⟨d, t, r, z, u⟩ := h; ⟨d, t, r, k _ _ z (fun ys z => by cases z), k _ _ u (fun ys z => by cases z)⟩
theorem DuL.ex {H H' : Hp} {y : V} {l : Fl} (h : DuL H y l) (e : Ex H H') : DuL H' y l := h.keep fun c o z _ => e c o z
abbrev BsL (K : PySem.W.Frag) (H : Hp) (ys : List V) (ls : List Fl) : Prop := AllAt (FlV K) H ys ls
abbrev DsL (H : Hp) (ys : List V) (ls : List Fl) : Prop := AllAt DuL H ys ls
/-! cells and moves -/
def cell (rs : Fl) (i j : Nat) : Option Nat := rs[i]?.bind fun r => r[j]?
def fre (rs : Fl) (i j : Nat) : Bool := decide (cell rs i j = some 46)
def cov (rs : Fl) (i j : Nat) : Fl := rs.set i ((rs.getD i []).set j 35)
def dnF (s : Str) : Nat := if s = "left" then 1 else 0
def rtF (s : Str) : Nat := if s = "left" then 0 else 1
def mvAtL (s : Str) (rs : Fl) (i j : Nat) : List Fl := if fre rs i j = true ∧ fre rs (i + dnF s) (j + rtF s) = true then [cov (cov rs i j) (i + dnF s) (j + rtF s)] else []
def mvsL (s : Str) (w : Nat) (rs : Fl) : List Fl := (List.range rs.length).flatMap fun i => (List.range w).flatMap fun j => mvAtL s rs i j
theorem fre_in {rs : Fl} {i j w : Nat} (ok : OkF rs w) (h : fre rs i j = true) : i < rs.length ∧ j < w := by
  have h := of_decide_eq_true h
  unfold cell at h
  cases e : rs[i]? with
  | none => rw [e] at h; cases h
  | some r =>
    rw [e] at h
    have hi := (List.getElem?_eq_some_iff.mp e).1
    have hj : r[j]? = some 46 := h
    have := (List.getElem?_eq_some_iff.mp hj).1
    have ol := (ok.ok r (List.mem_of_getElem? e)).1
    exact ⟨hi, by omega⟩
theorem cov_ok {rs : Fl} {w i j : Nat} (ok : OkF rs w) (hi : i < rs.length) : OkF (cov rs i j) w := by
  have hl : (cov rs i j).length = rs.length := List.length_set
  refine ⟨by rw [hl]; exact ok.n1, by rw [hl]; exact ok.n6, ok.w1, ok.w6, fun r m => ?_⟩
  rcases List.mem_or_eq_of_mem_set m with m | rfl
  · exact ok.ok r m
  · have e : rs.getD i [] = rs[i] := by rw [List.getD_eq_getElem?_getD, List.getElem?_eq_getElem hi]; rfl
    rw [e]
    have o := ok.ok _ (List.getElem_mem hi)
    refine ⟨by rw [List.length_set]; exact o.1, fun c m => ?_⟩
    rcases List.mem_or_eq_of_mem_set m with m | rfl
    · exact o.2 c m
    · exact Or.inr rfl
theorem mvAt_ok {s : Str} {rs : Fl} {w i j : Nat} (ok : OkF rs w) : ∀ r ∈ mvAtL s rs i j, OkF r w ∧ r.length = rs.length := by
  intro r m
  unfold mvAtL at m
  split at m
  · rename_i h
    rw [List.mem_singleton] at m
    subst m
    have h1 := fre_in ok h.1
    have h2 := fre_in ok h.2
    refine ⟨cov_ok (cov_ok ok h1.1) (by unfold cov; rw [List.length_set]; exact h2.1), by unfold cov; rw [List.length_set, List.length_set]⟩
  · cases m
theorem mvsL_ok {s : Str} {rs : Fl} {w : Nat} (ok : OkF rs w) : ∀ r ∈ mvsL s w rs, OkF r w := by
  intro r m
  unfold mvsL at m
  obtain ⟨i, _, m⟩ := List.mem_flatMap.mp m
  obtain ⟨j, _, m⟩ := List.mem_flatMap.mp m
  exact (mvAt_ok ok r m).1
theorem mvAtL_len (s : Str) (rs : Fl) (i j : Nat) : (mvAtL s rs i j).length ≤ 1 := by
  unfold mvAtL
  split <;> simp
theorem flat_len {α : Type} (f : Nat → List α) (b : Nat) (h : ∀ i, (f i).length ≤ b) (n : Nat) : ((List.range n).flatMap f).length ≤ n * b := by
  induction n with
  | zero => simp
  | succ n ih =>
    rw [List.range_succ, List.flatMap_append, List.length_append, List.flatMap_cons, List.flatMap_nil, List.append_nil, Nat.add_mul, Nat.one_mul]
    have := h n
    omega
/-! texts: a row's kind -/
def okd (c : Nat) : Bool := decide (c = 46) || decide (c = 35)
theorem okd_iff (c : Nat) : okd c = true ↔ (c = 46 ∨ c = 35) := by
  unfold okd
  rw [Bool.or_eq_true, decide_eq_true_iff, decide_eq_true_iff]
section
variable {H : Hp} {K : PySem.W.Frag} {Q : VK}
theorem k_inDots {t : Addr} (h : SqT K H t [.str ".", .str "#"]) {c : Nat} (q : Q (.bl (okd c)) H) : rIn K false (.str (tx [c])) (.ref t) H Q := by
  refine ⟨_, _, rfl, Or.inr h, rfl, rfl, ?_⟩
  have e : inV (V.str (tx [c])) [.str ".", .str "#"] = okd c := by
    have key : ∀ d : Nat, eqV (V.str (tx [d])) (V.str (tx [c])) = decide (c = d) := by
      intro d
      show decide (tx [d] = tx [c]) = _
      refine decide_eq_decide.mpr ⟨fun h => ?_, fun h => by rw [h]⟩
      have := tx_inj.mp h
      injection this with h1
      exact h1.symm
    show (eqV (V.str (tx [46])) (V.str (tx [c])) || (eqV (V.str (tx [35])) (V.str (tx [c])) || false)) = _
    rw [key, key, Bool.or_false]
    rfl
  rw [e]
  exact q
end
section
variable {te : TE} {σ : L2.St} {H1 : Hp}
/-- a turn that may make objects -/
theorem turn_mapE {i : Nat} {x y : V} (h : ∀ H', Ex H1 H' → ∀ R : VK, (∀ H'', Ex H' H'' → R y H'') → te ((wipe σ [i]).set i (some x)) H' R) (w : wipe ((wipe σ [i]).set i (some x)) [i] = wipe σ [i] := by rfl) : turnR (gName i) tYes te [i] σ x (some y) H1 :=
  fun H' e R r => ⟨w, h H' e (fun y H4 => R (some y) H4) r⟩
end
/-- what is known of a thing in a list of rows -/
def Kn (K : PySem.W.Frag) (H : Hp) (v : V) : Prop := (∃ T, TyB K H v T ∧ T ≠ "str") ∨ ∃ r, v = .str (tx r) ∧ r.length ≤ 100
theorem Kn.ex {K : PySem.W.Frag} {H H' : Hp} {v : V} (h : Kn K H v) (e : Ex H H') : Kn K H' v := by
  rcases h with ⟨T, t, n⟩ | h
  · exact Or.inl ⟨T, TyB.ex t e, n⟩
  · exact Or.inr h
theorem ty_str {K : PySem.W.Frag} {H : Hp} {r : Str} {T : String} (h : TyB K H (.str r) T) : T = "str" := by cases h; rfl
/-- no list of rows -/
def NoF (xs : List V) : Prop := ∀ rs w, OkF rs w → xs ≠ rowsV rs
/-- a row as it must be, of the first row's length -/
def Row0 (n : Nat) (v : V) : Prop := ∃ r, v = .str (tx r) ∧ r.length = n ∧ 1 ≤ r.length ∧ r.length ≤ 6 ∧ r.all okd = true
def len0 : List V → Nat
  | .str s :: _ => s.length
  | _ => 0
theorem rows_of {xs : List V} (h1 : 1 ≤ xs.length) (h6 : xs.length ≤ 6) (h : ∀ v ∈ xs, Row0 (len0 xs) v) : ∃ rs w, OkF rs w ∧ xs = rowsV rs := by
  have ex : ∀ ys : List V, (∀ v ∈ ys, Row0 (len0 xs) v) → ∃ rs : Fl, ys = rowsV rs ∧ ∀ r ∈ rs, OkR (len0 xs) r := by
    intro ys
    induction ys with
    | nil => exact fun _ => ⟨[], rfl, fun _ m => by cases m⟩
    | cons y ys ih =>
      intro h
      obtain ⟨rs, e, o⟩ := ih fun v m => h v (List.mem_cons_of_mem _ m)
      obtain ⟨r, e2, l, _, _, a⟩ := h y (List.mem_cons_self)
      refine ⟨r :: rs, by rw [e, e2]; rfl, fun q m => ?_⟩
      rcases List.mem_cons.mp m with rfl | m
      · exact ⟨l, fun c mc => (okd_iff c).mp (List.all_eq_true.mp a c mc)⟩
      · exact o q m
  obtain ⟨rs, e, o⟩ := ex xs h
  have hl : rs.length = xs.length := by rw [e, rowsV_len]
  refine ⟨rs, len0 xs, ⟨by omega, by omega, ?_, ?_, o⟩, e⟩
  · obtain ⟨r, _, l, a, b, _⟩ := h xs[0] (List.getElem_mem (by omega)); omega
  · obtain ⟨r, _, l, a, b, _⟩ := h xs[0] (List.getElem_mem (by omega)); omega
theorem row_of {xs : List V} {rs : Fl} {w : Nat} (ok : OkF rs w) (e : xs = rowsV rs) : 1 ≤ xs.length ∧ xs.length ≤ 6 ∧ ∀ v ∈ xs, Row0 (len0 xs) v := by
  subst e
  refine ⟨by rw [rowsV_len]; exact ok.n1, by rw [rowsV_len]; exact ok.n6, fun v m => ?_⟩
  obtain ⟨r, mr, rfl⟩ := List.mem_map.mp m
  have o := ok.ok r mr
  have e0 : len0 (rowsV rs) = w := by
    cases rs with
    | nil => cases mr
    | cons q qs =>
      show (tx q).length = w
      rw [tx_len]; exact (ok.ok q (List.mem_cons_self)).1
  rw [e0]
  exact ⟨r, rfl, o.1, by rw [o.1]; exact ok.w1, by rw [o.1]; exact ok.w6, List.all_eq_true.mpr fun c m => (okd_iff c).mpr (o.2 c m)⟩
/-! the rows that the law draws -/
def widD (ds : List Int) : Nat := (1 + ds.getD 1 0 % 6).toNat
def rowD (ds : List Int) (line : Nat) : List Nat := (List.range (widD ds)).map fun k => if ds.getD (3 + 6 * line + k) 0 % (2 + ds.getD 2 0 % 4) = 1 then 35 else 46
def rowsD (ds : List Int) : Fl := (List.range (1 + ds.getD 0 0 % 6).toNat).map (rowD ds)
def rowsF (c : Int) : Fl := rowsD (dgF c 39)
def widF (c : Int) : Nat := widD (dgF c 39)
theorem rowsF_ok (c : Int) : OkF (rowsF c) (widF c) := by
  unfold rowsF widF rowsD
  generalize dgF c 39 = ds
  have w : widD ds = (1 + ds.getD 1 0 % 6).toNat := rfl
  refine ⟨by rw [List.length_map, List.length_range]; omega, by rw [List.length_map, List.length_range]; omega, by omega, by omega, fun r m => ?_⟩
  obtain ⟨l, _, rfl⟩ := List.mem_map.mp m
  refine ⟨by unfold rowD; rw [List.length_map, List.length_range], fun c m => ?_⟩
  obtain ⟨k, _, rfl⟩ := List.mem_map.mp m
  split
  · exact Or.inr rfl
  · exact Or.inl rfl
end Mine
namespace Mine
open PySem PySem.Spec PyProof.Rows L2
open Evl (Ex)
/-! what makes no floor -/
/-- never a row -/
def Never (v : V) : Prop := ∀ r, v = .str (tx r) → 1 ≤ r.length → r.length ≤ 6 → (∀ c ∈ r, c = 46 ∨ c = 35) → False
theorem put_at {xs : List V} {i : Nat} (h : i < xs.length) (v : V) : xs.take i ++ [v] ++ xs.drop (i + 1) = xs.set i v := by
  rw [List.set_eq_take_append_cons_drop, if_pos h, List.append_assoc]; rfl
theorem noF_put {rs : Fl} {w pl : Nat} {v : V} (ok : OkF rs w) (hp : pl < rs.length)
    (h : ∀ r, v = .str (tx r) → 1 ≤ r.length → r.length ≤ 6 → (∀ c ∈ r, c = 46 ∨ c = 35) → (1 < rs.length → r.length = w) → False) : NoF ((rowsV rs).set pl v) := by
  intro rs2 w2 ok2 e
  have hl := rowsV_len rs
  have e1 : (rowsV rs2)[pl]? = some v := by rw [← e]; exact List.getElem?_set_self (by omega)
  obtain ⟨r2, h2, e2⟩ : ∃ r2, rs2[pl]? = some r2 ∧ v = .str (tx r2) := by
    unfold rowsV at e1
    rw [List.getElem?_map] at e1
    obtain ⟨r2, a, b⟩ := Option.map_eq_some_iff.mp e1
    exact ⟨r2, a, b.symm⟩
  have o2 := ok2.ok r2 (List.mem_of_getElem? h2)
  have w1 := ok2.w1
  have w6 := ok2.w6
  refine h r2 e2 (by rw [o2.1]; exact w1) (by rw [o2.1]; exact w6) o2.2 fun n1 => ?_
  have key : ∀ k, k < rs.length → k ≠ pl → r2.length = w := by
    intro k hk ne
    obtain ⟨r, hr, o⟩ := ok.at hk
    have ek : (rowsV rs2)[k]? = some (.str (tx r)) := by
      rw [← e, List.getElem?_set_ne (fun h => ne h.symm)]
      exact rowsV_at hr
    unfold rowsV at ek
    rw [List.getElem?_map] at ek
    obtain ⟨r3, a, b⟩ := Option.map_eq_some_iff.mp ek
    injection b with b
    have b := tx_inj.mp b
    subst b
    have o3 := ok2.ok r3 (List.mem_of_getElem? a)
    rw [o2.1, ← o3.1]
    exact o.1
  by_cases z : pl = 0
  · exact key 1 (by omega) (by omega)
  · exact key 0 (by omega) (fun h => z h.symm)
theorem kn_rows {K : PySem.W.Frag} {H : Hp} {rs : Fl} {w : Nat} (ok : OkF rs w) : ∀ v ∈ rowsV rs, Kn K H v := by
  intro v m
  obtain ⟨r, mr, rfl⟩ := List.mem_map.mp m
  have o := (ok.ok r mr).1
  have := ok.w6
  exact Or.inr ⟨r, rfl, by omega⟩
theorem kn_put {K : PySem.W.Frag} {H : Hp} {rs : Fl} {w pl : Nat} {v : V} (ok : OkF rs w) (kv : Kn K H v) : ∀ x ∈ (rowsV rs).set pl v, Kn K H x := by
  intro x m
  rcases List.mem_or_eq_of_mem_set m with m | rfl
  · exact kn_rows ok x m
  · exact kv
theorem small_ok {l : List Nat} (h : ∀ c ∈ l, c < 128) : PyData.strOk (tx l) = true := by
  unfold PyData.strOk tx
  rw [List.all_toArray, List.all_eq_true]
  intro c m
  have k : ∀ c : Nat, c < 128 → (decide (c < 1114112) && !(decide (55296 ≤ c) && decide (c ≤ 57343))) = true ∨ True := fun _ _ => Or.inr trivial
  have := h c m
  simp
  omega
theorem shaped_str {l : List Nat} (h : ∀ c ∈ l, c < 128) : SeqAt.shaped (.str (tx l)) = true := by
  have hd : (PyData.str (tx l)).depth ≤ 64 := by simp only [PyData.depth]; decide
  have hl : (PyData.str (tx l)).canLay0 = true := by simp only [PyData.canLay0]; exact small_ok h
  unfold SeqAt.shaped
  rw [hl, decide_eq_true hd]
  rfl
/-- a thing that can be compared with a text -/
def Cmp (K : PySem.W.Frag) (H : Hp) (v : V) : Prop := ∃ d, Dp K H v d ∧ SeqAt.shaped d = true
theorem k_neS {K : PySem.W.Frag} {H : Hp} {Q : VK} {v : V} {y : List Nat} (h : Cmp K H v) (hy : ∀ c ∈ y, c < 128) (q : ∀ b : Bool, (b = true → v ≠ .str (tx y)) → Q (.bl b) H) : rNeD K v (.str (tx y)) H Q := by
  obtain ⟨d, hd, sd⟩ := h
  refine ⟨d, .str (tx y), hd, .str _, sd, shaped_str hy, q _ fun hb e => ?_⟩
  subst e
  cases hd
  simp only [PyData.eqv] at hb
  simp at hb
theorem k_orP {P A B : Prop} {b : Bool} (ha : P → A) (h1 : b = true → P) (h2 : (P → A) → B) : if b = true then A else B := by
  cases b
  · exact h2 ha
  · exact ha (h1 rfl)
end Mine
namespace Mine
open PySem PySem.Spec PyProof.Rows L2
/-! name = {k: v for ..}, a statement of its own -/
section
variable {X : Cx}
theorem ps_setDc {i : Nat} {y : Str} {py : Pos} {kx vx tg iter : Expr} {ifs : List Expr} {scope : Scope} {own : List (Str × Nat)} {pos spos : Pos} {wi : TI} {g : TG} {tt : TT} {tk tv : TE} (hc : X.calm = true) (hN : X.N.Nodup) (hy : X.N[i]? = some y) (hyl : X.env.scope.names.lookup y = some .local)
    (hsw : swapsWith (.DictComp kx vx [⟨tg, iter, ifs, 0⟩] scope pos) (some (.Name y py)) spos.line X.env = pure true) (hi : PI X tg iter wi) (ok : BlkOk X.N X.env.scope scope own)
    (hg : ∀ (s : Shared) (H : Hp) (C : Addr) (cl : List (Str × Addr)) (fp : List Addr), PG (X.blk s H scope (compEnvC scope cl C X.env) fp) tg g) (ht : ∀ (s : Shared) (H : Hp) (C : Addr) (cl : List (Str × Addr)) (fp : List Addr), PTs (X.blk s H scope (compEnvC scope cl C X.env) fp) ifs tt)
    (hk : ∀ (s : Shared) (H : Hp) (C : Addr) (cl : List (Str × Addr)) (fp : List Addr), PE (X.blk s H scope (compEnvC scope cl C X.env) fp) kx tk)
    (hv : ∀ (s : Shared) (H : Hp) (C : Addr) (cl : List (Str × Addr)) (fp : List Addr), PE (X.blk s H scope (compEnvC scope cl C X.env) fp) vx tv) (hs : ∀ x, foldedSetIterable iter X.env x = pure x := by intro _; rfl) :
    PS X (.Assign [.Name y py] (.DictComp kx vx [⟨tg, iter, ifs, 0⟩] scope pos) spos) (tAsg (tDc wi g tt tk tv (own.map (·.2))) (gName i)) := by
  refine ⟨fun pins s σ H D I h => ?_⟩
  rw [exec_Assign_Name_used _ _ _ _ hsw]
  refine wpAny_bind (wpAny_standAt (wpAny_bind ?_))
  show wpAny _ X.A (do let _ ← comprehension (.DictComp kx vx [⟨tg, iter, ifs, 0⟩] scope pos) scope X.env (firstIterPos [⟨tg, iter, ifs, 0⟩] pos) newDict false (eval iter X.env) (some (assign (.Name y py) X.env))) _ _ s
  have h : tDc wi g tt tk tv (own.map (·.2)) σ H (fun x H1 => gName i x σ H1 D.nx) := h
  refine wpAny_bind (thn (dc_core (Qf := fun _ s' => SP X pins D .next s') hc hN I hi ok hg ht hk hv hs h fun L C s' m H' I' q hn f => ?_) fun _ s' hq => wpAny_pure (wpAny_pure hq))
  show wpAny _ _ (assign (.Name y py) X.env (.ref L)) _ _ _
  refine wpAny_assign_Name (store_ok2 (v := V.ref L) I' hN hy (.inl hyl) rfl (fun s2 I2 ⟨a, sb, ha⟩ => ?_) (.inr hyl))
  obtain ⟨f0, f1, f2, f3, f4, f5⟩ := f
  have far : C ≠ a := by
    rcases ha with z | z
    · rw [z]; exact f1
    · exact fun e => f4 y a z e.symm
  refine ⟨m, hn.sameBut sb far, fun h3 sb3 => ?_⟩
  exact ⟨_, H', I2.turned (t' := s2.toks) (fun b o hb e => (sb3.2 b hb).trans e) f0 f1 f3 f4 f5, q⟩
theorem swD_true {kx vx : Expr} {gs : List Comprehension} {scope : Scope} {pos py : Pos} {y : Str} {l : Nat} {env : Env} (hk : env.scope.kind = .function) (hy : env.scope.names.lookup y = some .local) (hl : (py.line == pos.line) = true)
    (ha : (scope.names.any fun (n, k) => n == y && (k == .local || k == .cell)) = false) : swapsWith (.DictComp kx vx gs scope pos) (some (.Name y py)) l env = pure true := by
  have ky : env.kindOf y = some .local := hy
  have hb : env.blockKind = .function := by unfold Env.blockKind; rw [hk]; rfl
  unfold swapsWith
  simp only [hb, ky, ha, Expr.pos, hl]
  rfl
end
end Mine
namespace Mine
open PySem PySem.Spec PyProof.Rows L2
open Evl (Ex)
/-! a list against an empty one -/
def rEqN (K : PySem.W.Frag) : R2 := fun x y H Q => ∃ a b xs, x = V.ref a ∧ y = V.ref b ∧ H a = some (.lst xs) ∧ H b = some (.lst []) ∧ Q (.bl (decide (xs.length = 0))) H
theorem op_eqN {X : Cx} (hu : X.A.units + 64 < cLine) : OpR X (compareOp .Eq) (rEqN X.K) := by
  rintro pins s σ H x y v u Q I r1 r2 ⟨a, b, xs, rfl, rfl, ha, hb, q⟩
  cases xs with
  | nil => exact op_eqD hu pins s σ H _ _ v u Q I r1 r2 ⟨.list [], .list [], .lst (k_sq ha) .nil, .lst (k_sq hb) .nil, by decide +kernel, by decide +kernel, by simpa [PyData.eqv, PyData.eqvAll] using q⟩
  | cons x xs =>
    obtain rfl : v = Value.ref a := r1
    obtain rfl : u = Value.ref b := r2
    obtain ⟨its, n, rv, h1, l1⟩ := I.lst ha
    obtain ⟨its2, n2, rv2, h2, l2⟩ := I.lst hb
    cases rv2
    cases rv with
    | @cons _ w _ ws hw rw =>
    show wpAny _ _ (richCompare .Eq (.ref a) (.ref b)) _ _ _
    refine richCompare_meets_room ⟨_, h1, rfl⟩ ⟨_, h2, rfl⟩ PySem.F.slot_list_eq PySem.F.entry_list_eq (PySem.F.args_list_eq_2 _ _) (PySem.AutoSeq1.list___eq___list_list_0 a _ n b _ n2 (by simp)) ⟨h1, h2, ?_⟩ (by omega)
    exact ⟨by simp, .bl false, H, I, rfl, by simpa using q⟩
/-! {k: v}, k a tuple -/
def tDispT (tk tv : TE) : TE := fun σ H Q => ∀ d, H d = none → tk σ (upd H d (.dT [])) fun y H1 => tv σ H1 fun z H2 => ∃ (b : Addr) (k : List Key), y = V.ref b ∧ H2 d = some (.dT []) ∧ H2 b = some (.tup (k.map kV)) ∧ Q (.ref d) (upd H2 d (.dT [(k, z)]))
theorem pe_dispT {X : Cx} {pos : Pos} {tk tv : TE} {k v : Expr} (hu : X.A.units + 9 < cLine) (hk : PE X k tk) (hv : PE X v tv) : PE X (.Dict [some k] [v] pos) (tDispT tk tv) := by
  refine ⟨fun pins s σ H Q I h => ?_⟩
  have hn := I.hok.fresh (Nat.le_refl s.heap.objs.size)
  have hb := I.big
  have hm : (s.heap.objs.size == sysModules) = false := beq_eq_false_iff_ne.mpr (Ne.symm (Nat.ne_of_lt hb))
  have I1 := I.laid (a := s.heap.objs.size) (o := .dT []) (h' := s.heap.push { cls := .type "dict", data := .dict #[] }) (t' := s.toks) (fun _ _ q => Heap.get?_push_of_some _ q) (Nat.le_refl _)
    ⟨Nat.zero_le _, hm, [], .nil, _, #[], 0, Heap.get?_push_size _ rfl, ⟨rfl, rfl, rfl⟩, rfl, rfl, List.nodup_nil⟩
  refine wpAny_Dict_any rfl rfl (by simp) (show 1 ≤ 15 by decide) ?_
  refine pairTrees_cons_walk (thn (hk.run pins _ σ _ _ I1 (h _ hn)) fun u s1 z1 => ?_)
  obtain ⟨y, H1, I2, ry, q1⟩ := z1
  refine thn (hv.run pins s1 σ H1 _ I2 q1) fun u2 s2 z2 => ?_
  obtain ⟨z, H2, I3, rz, b, kk, ey, g, kb, q2⟩ := z2
  subst ey
  obtain rfl : u = Value.ref b := ry
  refine pairTrees_nil_walk ?_
  unfold storeAll
  rw [List.forIn_cons]
  obtain ⟨zz, hd, xs, r, dd⟩ := dt_of I3.hok g
  have xn : xs = [] := by cases r; rfl
  subst xn
  refine wpAny_bind (wpAny_bind (wpAny_dictSet_heap (hsz := Nat.zero_le _) (knd := tupleKind (mixKind X.prog X.w)) (show X.A.units < cLine by omega) (key_of I3.hok kb) dd fun h' dd' hs => ?_))
  refine wpAny_pure ?_
  dsimp only
  rw [List.forIn_nil]
  refine wpAny_pure ⟨.ref s.heap.objs.size, _, ?_, rfl, q2⟩
  rw [storedH_new rfl] at dd'
  obtain ⟨q, es, ep, hq, h2, h3, h4, _, h5⟩ := dd'
  have nb : b ≠ s.heap.objs.size := fun e => by rw [e, g] at kb; cases kb
  refine I3.write (x := s.heap.objs.size) (e := s.heap.objs.size) (by rw [g]; exact True.intro) (.inl rfl) (fun c u hc y => (hs.2 c hc).trans y) ⟨q, hq⟩ ?_
  exact ⟨(show 1 ≤ sizeLine by decide), hd, _, .cons ⟨rfl, (upd_ne nb).trans kb, rz⟩ .nil, q, es, ep, hq, h2, h3, h4, h5⟩
/-! the keys of a locked dict -/
theorem for_keysT {g : TG} {tb : TS} {D : Ends} {σ : L2.St} {H : Hp} {d : Addr} {o : Obj} {kvs : List (List Key × V)} (Pv : Nat → L2.St → Hp → Prop) (h0 : Pv 0 σ H) (hl : ∀ i σ' H', i ≤ kvs.length → Pv i σ' H' → H' d = some (.frz o (.dT kvs)))
    (hs : ∀ i k v q σ' H', kvs[i]? = some (k, v) → Pv i σ' H' → H' q = some (.tup (k.map kV)) → g (.ref q) σ' H' fun σ2 H2 => tb { D with nx := Pv (i + 1), ct := Pv (i + 1), bk := D.nx } σ2 H2) (hd : ∀ σ' H', Pv kvs.length σ' H' → D.nx σ' H') : forK g tb D σ (Itkt d o kvs) H := by
  refine ⟨fun i m σ H => i ≤ kvs.length ∧ m = kvs.length - i ∧ Pv i σ H, ⟨kvs.length, Nat.zero_le _, by omega, h0⟩, ?_⟩
  rintro i m σ H ⟨hi, rfl, p⟩
  have hq := hl i σ H hi p
  rcases Nat.lt_or_ge i kvs.length with h | h
  · refine Or.inr ⟨⟨hq, h⟩, Pv (i + 1), fun σ' H' p' => ⟨kvs.length - (i + 1), by omega, by omega, rfl, p'⟩, ?_⟩
    rintro v H' ⟨rfl, k, v', q, hk, rfl, hq⟩
    exact hs i k v' q σ _ hk p hq
  · have e : i = kvs.length := by omega
    subst e
    exact Or.inl ⟨⟨hq, Nat.le_refl _⟩, hd σ H p⟩
section
variable {g : TG} {tt : TT} {te : TE} {vs : List Nat} {σ : L2.St} {Q : VK} {H1 : Hp}
theorem lcR_keysT {d : Addr} {o : Obj} {kvs : List (List Key × V)} (f : List Key → Option V) (hS : H1 d = some (.frz o (.dT kvs))) (len : kvs.length < sizeLine) (t : ∀ (i : Nat) (k : List Key) (v : V) (q : Addr) (H' : Hp), kvs[i]? = some (k, v) → Ex H1 H' → H' q = some (.tup (k.map kV)) → turnR g tt te vs σ (.ref q) (f k) H')
    (q : ∀ D H', H1 D = none → Ex H1 H' → H' D = some (.lst (kvs.filterMap fun e => f e.1)) → Q (.ref D) H') : lcR g tt te vs σ Q (Itkt d o kvs) H1 := by
  intro D hD
  refine ⟨fun i m H => i ≤ kvs.length ∧ m = kvs.length - i ∧ Ex H1 H ∧ H D = some (.lst ((kvs.take i).filterMap fun e => f e.1)), ⟨kvs.length, Nat.zero_le _, rfl, Evl.Ex.new hD, upd_same⟩, ?_⟩
  rintro i m H ⟨hi, rfl, e, hd⟩
  have hq := e _ _ hS
  rcases Nat.lt_or_ge i kvs.length with h | h
  · refine Or.inr ⟨⟨hq, h⟩, fun H' => Ex H1 H' ∧ H' D = some (.lst ((kvs.take (i + 1)).filterMap fun e => f e.1)), fun H' p => ⟨kvs.length - (i + 1), by omega, by omega, rfl, p⟩, ?_⟩
    rintro v H' ⟨rfl, k, v', q, hk, rfl, hq⟩
    have rs : (kvs.take (i + 1)).filterMap (fun e => f e.1) = (kvs.take i).filterMap (fun e => f e.1) ++ (f k).toList := by
      rw [List.take_add_one, hk, List.filterMap_append]
      cases h : f k <;> simp [h]
    refine t i k v' q _ hk e hq _ (Evl.Ex.refl _) (fun o' H4 => match o' with | some y => ∃ acc, H4 D = some (.lst acc) ∧ acc.length < sizeLine ∧ (Ex H1 (upd H4 D (.lst (acc ++ [y]))) ∧ upd H4 D (.lst (acc ++ [y])) D = some (.lst ((kvs.take (i + 1)).filterMap fun e => f e.1))) | none => Ex H1 H4 ∧ H4 D = some (.lst ((kvs.take (i + 1)).filterMap fun e => f e.1))) fun H'' e2 => ?_
    rw [rs]
    have e3 := e.trans e2
    cases hf : f k with
    | none => exact ⟨e3, by rw [e2 _ _ hd]; simp⟩
    | some y =>
      refine ⟨_, e2 _ _ hd, Nat.lt_of_le_of_lt (Nat.le_trans (List.length_filterMap_le _ _) (by rw [List.length_take]; omega)) len, Evl.Ex.mut e3 hD, upd_same⟩
  · have ei : i = kvs.length := by omega
    subst ei
    rw [List.take_length] at hd
    exact Or.inl ⟨⟨hq, Nat.le_refl _⟩, q D H hD e hd⟩
end
/-! a tuple of tuples of the head -/
def itA (K : PySem.W.Frag) (a : Addr) (i : Nat) : Addr := match K.lookup a with
  | some ⟨_, _, .seq its _, _⟩ => match its[i]? with
    | some (.ref b) => b
    | _ => 0
  | _ => 0
def tup2B (K : PySem.W.Frag) (a : Addr) (ls : List (List V)) : Bool := tupB K a ((List.range ls.length).map fun i => V.ref (itA K a i)) && (List.range ls.length).all fun i => tupB K (itA K a i) (ls.getD i [])
def Tup2 (K : PySem.W.Frag) (a : Addr) (ls : List (List V)) : Prop := (∀ H, SqT K H a ((List.range ls.length).map fun i => V.ref (itA K a i))) ∧ ∀ i, i < ls.length → ∀ H, SqT K H (itA K a i) (ls.getD i [])
theorem tup2B_ok {K : PySem.W.Frag} {a : Addr} {ls : List (List V)} (h : tup2B K a ls = true) : Tup2 K a ls := by
  unfold tup2B at h
  rw [Bool.and_eq_true, List.all_eq_true] at h
  exact ⟨tupB_ok h.1, fun i hi => tupB_ok (h.2 i (List.mem_range.mpr hi))⟩
structure FNEXT (K : PySem.W.Frag) : Prop where
  tu : Tup2 K (He.ga K "NEXT_CELLS") [[.int (-1), .int 0], [.int 0, .int (-1)], [.int 0, .int 1], [.int 1, .int 0]]
end Mine
namespace Mine
open PySem PySem.Spec PyProof.Rows L2
open Evl (Ex)
/-! the parts of a floor -/
abbrev C2 := Nat × Nat
def clsL (n w : Nat) : List C2 := (List.range n).flatMap fun i => (List.range w).map fun j => (i, j)
theorem mem_cls {n w : Nat} {c : C2} : c ∈ clsL n w ↔ c.1 < n ∧ c.2 < w := by
  unfold clsL
  rw [List.mem_flatMap]
  constructor
  · rintro ⟨i, mi, m⟩
    obtain ⟨j, mj, rfl⟩ := List.mem_map.mp m
    exact ⟨List.mem_range.mp mi, List.mem_range.mp mj⟩
  · intro h
    exact ⟨c.1, List.mem_range.mpr h.1, List.mem_map.mpr ⟨c.2, List.mem_range.mpr h.2, rfl⟩⟩
theorem cls_nodup (n w : Nat) : (clsL n w).Nodup := by
  unfold clsL
  induction n with
  | zero => simp
  | succ n ih =>
    rw [List.range_succ, List.flatMap_append]
    refine List.nodup_append.mpr ⟨ih, ?_, fun a ma b mb => ?_⟩
    · rw [List.flatMap_cons, List.flatMap_nil, List.append_nil]
      have : ∀ l : List Nat, l.Nodup → (l.map fun j => ((n, j) : C2)).Nodup := by
        intro l
        induction l with
        | nil => intro _; exact List.nodup_nil
        | cons x l ih =>
          intro h
          obtain ⟨h1, h2⟩ := List.nodup_cons.mp h
          rw [List.map_cons]
          refine List.nodup_cons.mpr ⟨fun m => ?_, ih h2⟩
          obtain ⟨y, my, e⟩ := List.mem_map.mp m
          injection e with _ e
          exact h1 (e ▸ my)
      exact this _ List.nodup_range
    · obtain ⟨i, mi, m⟩ := List.mem_flatMap.mp ma
      obtain ⟨j, _, rfl⟩ := List.mem_map.mp m
      have hi := List.mem_range.mp mi
      rw [List.flatMap_cons, List.flatMap_nil, List.append_nil] at mb
      obtain ⟨k, _, rfl⟩ := List.mem_map.mp mb
      intro e
      injection e with e _
      omega
def Fr (rs : Fl) (c : C2) : Prop := fre rs c.1 c.2 = true
def Adj (c d : C2) : Prop := (c.1 = d.1 ∧ (c.2 + 1 = d.2 ∨ d.2 + 1 = c.2)) ∨ (c.2 = d.2 ∧ (c.1 + 1 = d.1 ∨ d.1 + 1 = c.1))
theorem Adj.symm {c d : C2} (h : Adj c d) : Adj d c := by
  rcases h with ⟨h1, h2⟩ | ⟨h1, h2⟩
  · exact Or.inl ⟨h1.symm, h2.symm⟩
  · exact Or.inr ⟨h1.symm, h2.symm⟩
theorem Adj.ne {c d : C2} (h : Adj c d) : c ≠ d := by
  rintro rfl
  rcases h with ⟨_, h | h⟩ | ⟨_, h | h⟩ <;> omega
inductive Con (rs : Fl) (c : C2) : C2 → Prop
  | base : Con rs c c
  | step {d e : C2} : Con rs c d → Adj d e → Fr rs e → Con rs c e
theorem Con.free {rs : Fl} {c d : C2} (hc : Fr rs c) (h : Con rs c d) : Fr rs d := by
  cases h with
  | base => exact hc
  | step _ _ f => exact f
theorem Con.trans {rs : Fl} {c d e : C2} (h1 : Con rs c d) (h2 : Con rs d e) : Con rs c e := by
  induction h2 with
  | base => exact h1
  | step _ a f ih => exact .step ih a f
theorem Con.symm {rs : Fl} {c d : C2} (hc : Fr rs c) (h : Con rs c d) : Con rs d c := by
  induction h with
  | base => exact .base
  | step h a f ih => exact Con.trans (.step .base a.symm (h.free hc)) ih
open Classical in
noncomputable def compL (rs : Fl) (w : Nat) (c : C2) : List C2 := (clsL rs.length w).filter fun d => decide (Con rs c d)
open Classical in
theorem mem_comp {rs : Fl} {w : Nat} (ok : OkF rs w) {c d : C2} (hc : Fr rs c) : d ∈ compL rs w c ↔ Con rs c d := by
  unfold compL
  rw [List.mem_filter, mem_cls, decide_eq_true_iff]
  exact ⟨fun h => h.2, fun h => ⟨fre_in ok (h.free hc), h⟩⟩
open Classical in
theorem comp_nodup (rs : Fl) (w : Nat) (c : C2) : (compL rs w c).Nodup := by
  unfold compL
  exact List.Nodup.sublist List.filter_sublist (cls_nodup _ _)
open Classical in
theorem comp_eq {rs : Fl} {w : Nat} {c d : C2} (hc : Fr rs c) (h : Con rs c d) : compL rs w d = compL rs w c := by
  unfold compL
  refine List.filter_congr fun x _ => ?_
  exact decide_eq_decide.mpr ⟨fun z => h.trans z, fun z => (h.symm hc).trans z⟩
/-! the least floor around some cells -/
def loN (l : List Nat) : Nat := l.min?.getD 0
def hiN (l : List Nat) : Nat := l.max?.getD 0
theorem lo_spec {l : List Nat} {m : Nat} (h : m ∈ l) (hm : ∀ x ∈ l, m ≤ x) : loN l = m := by
  unfold loN
  rw [List.min?_eq_some_iff.mpr ⟨h, hm⟩]
  rfl
theorem hi_spec {l : List Nat} {m : Nat} (h : m ∈ l) (hm : ∀ x ∈ l, x ≤ m) : hiN l = m := by
  unfold hiN
  rw [List.max?_eq_some_iff.mpr ⟨h, hm⟩]
  rfl
theorem lo_mem {l : List Nat} (h : l ≠ []) : loN l ∈ l ∧ ∀ x ∈ l, loN l ≤ x := by
  unfold loN
  cases hm : l.min? with
  | none => exact absurd (List.min?_eq_none_iff.mp hm) h
  | some m => exact List.min?_eq_some_iff.mp hm
theorem hi_mem {l : List Nat} (h : l ≠ []) : hiN l ∈ l ∧ ∀ x ∈ l, x ≤ hiN l := by
  unfold hiN
  cases hm : l.max? with
  | none => exact absurd (List.max?_eq_none_iff.mp hm) h
  | some m => exact List.max?_eq_some_iff.mp hm
def rwN (S : List C2) : List Nat := S.map Prod.fst
def clN (S : List C2) : List Nat := S.map Prod.snd
def hgt (S : List C2) : Nat := hiN (rwN S) + 1 - loN (rwN S)
def wdt (S : List C2) : Nat := hiN (clN S) + 1 - loN (clN S)
def clip (S : List C2) : Fl := (List.range (hgt S)).map fun i => (List.range (wdt S)).map fun j => if (loN (rwN S) + i, loN (clN S) + j) ∈ S then 46 else 35
theorem rw_same {S T : List C2} (n : S ≠ []) (h : ∀ c, c ∈ S ↔ c ∈ T) : loN (rwN S) = loN (rwN T) ∧ hiN (rwN S) = hiN (rwN T) ∧ loN (clN S) = loN (clN T) ∧ hiN (clN S) = hiN (clN T) := by
  have e1 : ∀ x, x ∈ rwN S ↔ x ∈ rwN T := fun x => by
    unfold rwN
    rw [List.mem_map, List.mem_map]
    exact ⟨fun ⟨c, m, r⟩ => ⟨c, (h c).mp m, r⟩, fun ⟨c, m, r⟩ => ⟨c, (h c).mpr m, r⟩⟩
  have e2 : ∀ x, x ∈ clN S ↔ x ∈ clN T := fun x => by
    unfold clN
    rw [List.mem_map, List.mem_map]
    exact ⟨fun ⟨c, m, r⟩ => ⟨c, (h c).mp m, r⟩, fun ⟨c, m, r⟩ => ⟨c, (h c).mpr m, r⟩⟩
  have n1 : rwN S ≠ [] := by unfold rwN; simpa using n
  have n2 : clN S ≠ [] := by unfold clN; simpa using n
  refine ⟨(lo_spec ((e1 _).mp (lo_mem n1).1) fun x m => (lo_mem n1).2 x ((e1 x).mpr m)).symm, (hi_spec ((e1 _).mp (hi_mem n1).1) fun x m => (hi_mem n1).2 x ((e1 x).mpr m)).symm, (lo_spec ((e2 _).mp (lo_mem n2).1) fun x m => (lo_mem n2).2 x ((e2 x).mpr m)).symm, (hi_spec ((e2 _).mp (hi_mem n2).1) fun x m => (hi_mem n2).2 x ((e2 x).mpr m)).symm⟩
theorem clip_same {S T : List C2} (n : S ≠ []) (h : ∀ c, c ∈ S ↔ c ∈ T) : clip S = clip T := by
  obtain ⟨h1, h2, h3, h4⟩ := rw_same n h
  unfold clip hgt wdt
  rw [h1, h2, h3, h4]
  refine List.map_congr_left fun i _ => List.map_congr_left fun j _ => ?_
  by_cases z : (loN (rwN T) + i, loN (clN T) + j) ∈ T
  · rw [if_pos z, if_pos ((h _).mpr z)]
  · rw [if_neg z, if_neg fun y => z ((h _).mp y)]
structure Box (S : List C2) : Prop where
  r1 : ∀ c ∈ S, loN (rwN S) ≤ c.1 ∧ c.1 ≤ hiN (rwN S)
  c1 : ∀ c ∈ S, loN (clN S) ≤ c.2 ∧ c.2 ≤ hiN (clN S)
  rl : ∃ c ∈ S, c.1 = loN (rwN S)
  rh : ∃ c ∈ S, c.1 = hiN (rwN S)
  cl : ∃ c ∈ S, c.2 = loN (clN S)
  ch : ∃ c ∈ S, c.2 = hiN (clN S)
theorem box {S : List C2} (n : S ≠ []) : Box S := by
  have n1 : rwN S ≠ [] := by unfold rwN; simpa using n
  have n2 : clN S ≠ [] := by unfold clN; simpa using n
  have i1 : ∀ c ∈ S, c.1 ∈ rwN S := fun c m => List.mem_map.mpr ⟨c, m, rfl⟩
  have i2 : ∀ c ∈ S, c.2 ∈ clN S := fun c m => List.mem_map.mpr ⟨c, m, rfl⟩
  have g1 : ∀ x ∈ rwN S, ∃ c ∈ S, c.1 = x := fun x m => let ⟨c, a, b⟩ := List.mem_map.mp m; ⟨c, a, b⟩
  have g2 : ∀ x ∈ clN S, ∃ c ∈ S, c.2 = x := fun x m => let ⟨c, a, b⟩ := List.mem_map.mp m; ⟨c, a, b⟩
  exact ⟨fun c m => ⟨(lo_mem n1).2 _ (i1 c m), (hi_mem n1).2 _ (i1 c m)⟩, fun c m => ⟨(lo_mem n2).2 _ (i2 c m), (hi_mem n2).2 _ (i2 c m)⟩, g1 _ (lo_mem n1).1, g1 _ (hi_mem n1).1, g2 _ (lo_mem n2).1, g2 _ (hi_mem n2).1⟩
theorem clip_len (S : List C2) : (clip S).length = hgt S := by unfold clip; rw [List.length_map, List.length_range]
theorem clip_fre {S : List C2} (n : S ≠ []) (i j : Nat) : fre (clip S) i j = true ↔ (loN (rwN S) + i, loN (clN S) + j) ∈ S := by
  have b := box n
  unfold fre cell
  rw [decide_eq_true_iff]
  constructor
  · intro h
    unfold clip at h
    rw [List.getElem?_map] at h
    cases hi : (List.range (hgt S))[i]? with
    | none => rw [hi] at h; cases h
    | some i' =>
      have ei : i' = i := by
        rw [List.getElem?_range (by have := (List.getElem?_eq_some_iff.mp hi).1; rwa [List.length_range] at this)] at hi
        exact (Option.some.inj hi).symm
      subst ei
      rw [hi, Option.map_some, Option.bind_some, List.getElem?_map] at h
      cases hj : (List.range (wdt S))[j]? with
      | none => rw [hj] at h; cases h
      | some j' =>
        have ej : j' = j := by
          rw [List.getElem?_range (by have := (List.getElem?_eq_some_iff.mp hj).1; rwa [List.length_range] at this)] at hj
          exact (Option.some.inj hj).symm
        subst ej
        rw [hj, Option.map_some] at h
        refine Classical.byContradiction fun z => ?_
        rw [if_neg z] at h
        cases h
  · intro m
    obtain ⟨r1, r2⟩ := b.r1 _ m
    obtain ⟨c1, c2⟩ := b.c1 _ m
    have hi : i < hgt S := by unfold hgt; dsimp only at r2; omega
    have hj : j < wdt S := by unfold wdt; dsimp only at c2; omega
    unfold clip
    rw [List.getElem?_map, List.getElem?_range hi, Option.map_some, Option.bind_some, List.getElem?_map, List.getElem?_range hj, Option.map_some, if_pos m]
theorem clip_ok {S : List C2} (n : S ≠ []) (h6 : ∀ c ∈ S, c.1 < 6 ∧ c.2 < 6) : OkF (clip S) (wdt S) := by
  have b := box n
  obtain ⟨x, mx, ex⟩ := b.rh
  obtain ⟨y, my, ey⟩ := b.ch
  have hx := h6 x mx
  have hy := h6 y my
  have rx := (b.r1 x mx).1
  have cy := (b.c1 y my).1
  refine ⟨by rw [clip_len]; unfold hgt; omega, by rw [clip_len]; unfold hgt; omega, by unfold wdt; omega, by unfold wdt; omega, fun r m => ?_⟩
  unfold clip at m
  obtain ⟨i, _, rfl⟩ := List.mem_map.mp m
  refine ⟨by rw [List.length_map, List.length_range], fun c mc => ?_⟩
  obtain ⟨j, _, rfl⟩ := List.mem_map.mp mc
  split
  · exact Or.inl rfl
  · exact Or.inr rfl
/-! one part after another -/
noncomputable def pfStep (rs : Fl) (w : Nat) (acc : List (List C2) × List C2) (c : C2) : List (List C2) × List C2 :=
  if fre rs c.1 c.2 = true ∧ c ∉ acc.2 then (acc.1 ++ [compL rs w c], acc.2 ++ compL rs w c) else acc
noncomputable def pfTo (rs : Fl) (w : Nat) (l : List C2) : List (List C2) × List C2 := l.foldl (pfStep rs w) ([], [])
noncomputable def bigS (L : List (List C2)) : List Fl := (L.filter fun S => decide (1 < S.length)).map clip
noncomputable def partsF (rs : Fl) (w : Nat) : List Fl := bigS (pfTo rs w (clsL rs.length w)).1
theorem pf_snoc (rs : Fl) (w : Nat) (l : List C2) (c : C2) : pfTo rs w (l ++ [c]) = pfStep rs w (pfTo rs w l) c := by
  unfold pfTo
  rw [List.foldl_append]
  rfl
theorem pf_skip {rs : Fl} {w : Nat} {acc : List (List C2) × List C2} {c : C2} (h : ¬ (fre rs c.1 c.2 = true ∧ c ∉ acc.2)) : pfStep rs w acc c = acc := by unfold pfStep; rw [if_neg h]
theorem pf_new {rs : Fl} {w : Nat} {acc : List (List C2) × List C2} {c : C2} (h : fre rs c.1 c.2 = true ∧ c ∉ acc.2) : pfStep rs w acc c = (acc.1 ++ [compL rs w c], acc.2 ++ compL rs w c) := by unfold pfStep; rw [if_pos h]
theorem pf_filter (rs : Fl) (w : Nat) (l : List C2) : pfTo rs w (l.filter fun c => fre rs c.1 c.2) = pfTo rs w l := by
  unfold pfTo
  generalize (([], []) : List (List C2) × List C2) = acc
  induction l generalizing acc with
  | nil => rfl
  | cons c l ih =>
    rw [List.filter_cons]
    by_cases h : fre rs c.1 c.2 = true
    · rw [if_pos h, List.foldl_cons, List.foldl_cons, ih]
    · rw [if_neg h, List.foldl_cons, ih, pf_skip fun z => h z.1]
structure PfOk (rs : Fl) (w : Nat) (l : List C2) (acc : List (List C2) × List C2) : Prop where
  fl : acc.1.flatten = acc.2
  nd : acc.2.Nodup
  fr : ∀ c ∈ acc.2, Fr rs c
  all : ∀ c ∈ l, Fr rs c → c ∈ acc.2
  cl : ∀ c ∈ acc.2, compL rs w c ∈ acc.1
  is : ∀ S ∈ acc.1, ∃ c, Fr rs c ∧ S = compL rs w c
theorem pf_ok {rs : Fl} {w : Nat} (ok : OkF rs w) (l : List C2) : PfOk rs w l (pfTo rs w l) := by
  have key : ∀ (l l0 : List C2) (acc : List (List C2) × List C2), PfOk rs w l0 acc → PfOk rs w (l0 ++ l) (l.foldl (pfStep rs w) acc) := by
    intro l
    induction l with
    | nil => intro l0 acc h; rw [List.append_nil]; exact h
    | cons c l ih =>
      intro l0 acc o
      rw [List.foldl_cons, show l0 ++ c :: l = (l0 ++ [c]) ++ l by simp]
      refine ih _ _ ?_
      have mo : ∀ p ∈ acc.2, ∀ x ∈ compL rs w p, x ∈ acc.2 := fun p m x mx => by
        rw [← o.fl]
        exact List.mem_flatten.mpr ⟨_, o.cl p m, mx⟩
      by_cases z : fre rs c.1 c.2 = true ∧ c ∉ acc.2
      · rw [pf_new z]
        obtain ⟨zf, zn⟩ := z
        have mem := fun {d : C2} => mem_comp (w := w) ok (c := c) (d := d) zf
        refine ⟨by rw [List.flatten_append, o.fl]; simp, ?_, fun p m => ?_, fun p m f => ?_, fun p m => ?_, fun S m => ?_⟩
        · refine List.nodup_append.mpr ⟨o.nd, comp_nodup _ _ _, fun a ma b mb => ?_⟩
          rintro rfl
          have cb := mem.mp mb
          have fa := o.fr a ma
          exact zn (mo a ma c ((mem_comp ok fa).mpr (cb.symm zf)))
        · rcases List.mem_append.mp m with m | m
          · exact o.fr p m
          · exact (mem.mp m).free zf
        · rcases List.mem_append.mp m with m | m
          · exact List.mem_append_left _ (o.all p m f)
          · rw [List.mem_singleton.mp m]; exact List.mem_append_right _ (mem.mpr .base)
        · rcases List.mem_append.mp m with m | m
          · exact List.mem_append_left _ (o.cl p m)
          · rw [comp_eq zf (mem.mp m)]; exact List.mem_append_right _ List.mem_cons_self
        · rcases List.mem_append.mp m with m | m
          · exact o.is S m
          · exact ⟨c, zf, List.mem_singleton.mp m⟩
      · rw [pf_skip z]
        refine ⟨o.fl, o.nd, o.fr, fun p m f => ?_, o.cl, o.is⟩
        rcases List.mem_append.mp m with m | m
        · exact o.all p m f
        · rw [List.mem_singleton.mp m] at f ⊢
          exact Classical.byContradiction fun n => z ⟨f, n⟩
  have := key l [] ([], []) ⟨rfl, List.nodup_nil, fun p m => absurd m List.not_mem_nil, fun p m => absurd m List.not_mem_nil, fun p m => absurd m List.not_mem_nil, fun p m => absurd m List.not_mem_nil⟩
  exact this
end Mine
namespace Mine
open PySem PySem.Spec PyProof.Rows L2
open Evl (Ex)
theorem nodup_lenG {α : Type} [DecidableEq α] : ∀ (l m : List α), l.Nodup → (∀ x ∈ l, x ∈ m) → l.length ≤ m.length
  | [], _, _, _ => Nat.zero_le _
  | a :: l, m, nd, h => by
    obtain ⟨na, nl⟩ := List.nodup_cons.mp nd
    have ha := h a (List.mem_cons_self)
    have q := nodup_lenG l (m.erase a) nl fun x mx => (List.mem_erase_of_ne (fun (e : x = a) => na (by rw [← e]; exact mx))).mpr (h x (List.mem_cons_of_mem _ mx))
    rw [List.length_erase_of_mem ha] at q
    have := List.length_pos_of_mem ha
    rw [List.length_cons]
    omega
theorem same_len {α : Type} [DecidableEq α] {l m : List α} (h1 : l.Nodup) (h2 : m.Nodup) (h : ∀ x, x ∈ l ↔ x ∈ m) : l.length = m.length :=
  Nat.le_antisymm (nodup_lenG l m h1 fun x mx => (h x).mp mx) (nodup_lenG m l h2 fun x mx => (h x).mpr mx)
def Tr (S : List C2) (c : C2) : C2 := (loN (rwN S) + c.1, loN (clN S) + c.2)
theorem Tr_inj {S : List C2} {c d : C2} (h : Tr S c = Tr S d) : c = d := by
  unfold Tr at h
  injection h with h1 h2
  exact Prod.ext (by omega) (by omega)
theorem map_nodup {α β : Type} {f : α → β} (inj : ∀ x y, f x = f y → x = y) : ∀ {l : List α}, l.Nodup → (l.map f).Nodup
  | [], _ => List.nodup_nil
  | a :: l, h => by
    obtain ⟨h1, h2⟩ := List.nodup_cons.mp h
    rw [List.map_cons]
    refine List.nodup_cons.mpr ⟨fun m => ?_, map_nodup inj h2⟩
    obtain ⟨y, my, e⟩ := List.mem_map.mp m
    rw [← inj _ _ e] at h1
    exact h1 my
theorem Tr_onto {S : List C2} (n : S ≠ []) {c : C2} (m : c ∈ S) : ∃ d, Tr S d = c ∧ d.1 < hgt S ∧ d.2 < wdt S := by
  have b := box n
  obtain ⟨r1, r2⟩ := b.r1 c m
  obtain ⟨c1, c2⟩ := b.c1 c m
  refine ⟨(c.1 - loN (rwN S), c.2 - loN (clN S)), ?_, by show c.1 - _ < _; unfold hgt; omega, by show c.2 - _ < _; unfold wdt; omega⟩
  unfold Tr
  exact Prod.ext (by show _ + (c.1 - _) = c.1; omega) (by show _ + (c.2 - _) = c.2; omega)
theorem fr_clip {S : List C2} (n : S ≠ []) (c : C2) : Fr (clip S) c ↔ Tr S c ∈ S := clip_fre n c.1 c.2
theorem adj_Tr {S : List C2} {c d : C2} (h : Adj (Tr S c) (Tr S d)) : Adj c d := by
  unfold Tr Adj at h
  dsimp only at h
  unfold Adj
  omega
/-- cells that hang together -/
structure Whole (rs : Fl) (S : List C2) : Prop where
  ne : S ≠ []
  nd : S.Nodup
  six : ∀ c ∈ S, c.1 < 6 ∧ c.2 < 6
  fr : ∀ c ∈ S, Fr rs c
  cl : ∀ c ∈ S, ∀ d, Con rs c d ↔ d ∈ S
theorem comp_whole {rs : Fl} {w : Nat} (ok : OkF rs w) {c : C2} (hc : Fr rs c) : Whole rs (compL rs w c) := by
  have n6 := ok.n6
  have w6 := ok.w6
  have mem := fun {d : C2} => mem_comp (w := w) ok (c := c) (d := d) hc
  have f : ∀ d ∈ compL rs w c, Fr rs d := fun d m => (mem.mp m).free hc
  refine ⟨fun z => by have := mem.mpr (.base (rs := rs) (c := c)); rw [z] at this; exact List.not_mem_nil this, comp_nodup _ _ _, fun d m => ?_, f, fun d m e => ?_⟩
  · have := fre_in ok (f d m)
    omega
  · have cd := mem.mp m
    exact ⟨fun h => mem.mpr (cd.trans h), fun h => (cd.symm hc).trans (mem.mp h)⟩
theorem con_lift {rs : Fl} {S : List C2} (W : Whole rs S) {c : C2} (hc : Tr S c ∈ S) {y : C2} (h : Con rs (Tr S c) y) : ∃ d, Tr S d = y ∧ Con (clip S) c d := by
  induction h with
  | base => exact ⟨c, rfl, .base⟩
  | @step d e h a f ih =>
    obtain ⟨d', rfl, cd⟩ := ih
    have me : e ∈ S := (W.cl _ hc e).mp (.step h a f)
    obtain ⟨e', rfl, _⟩ := Tr_onto W.ne me
    exact ⟨e', rfl, .step cd (adj_Tr a) ((fr_clip W.ne e').mpr me)⟩
theorem clip_con {rs : Fl} {S : List C2} (W : Whole rs S) {c d : C2} (hc : Fr (clip S) c) : Con (clip S) c d ↔ Fr (clip S) d := by
  constructor
  · exact fun h => h.free hc
  · intro h
    have m1 := (fr_clip W.ne c).mp hc
    have m2 := (fr_clip W.ne d).mp h
    obtain ⟨d', e, r⟩ := con_lift W m1 ((W.cl _ m1 _).mpr m2)
    rw [← Tr_inj e]
    exact r
def freL (rs : Fl) (w : Nat) : List C2 := (clsL rs.length w).filter fun c => fre rs c.1 c.2
theorem mem_freL {rs : Fl} {w : Nat} (ok : OkF rs w) {c : C2} : c ∈ freL rs w ↔ Fr rs c := by
  unfold freL
  rw [List.mem_filter, mem_cls]
  exact ⟨fun h => h.2, fun h => ⟨fre_in ok h, h⟩⟩
theorem freL_nodup (rs : Fl) (w : Nat) : (freL rs w).Nodup := by
  unfold freL
  exact List.Nodup.sublist List.filter_sublist (cls_nodup _ _)
open Classical in
theorem clip_comp {rs : Fl} {S : List C2} (W : Whole rs S) {c : C2} (hc : Fr (clip S) c) (v : Nat) : compL (clip S) v c = freL (clip S) v := by
  unfold compL freL
  refine List.filter_congr fun d _ => ?_
  by_cases h : fre (clip S) d.1 d.2 = true
  · rw [h, decide_eq_true ((clip_con W hc).mpr h)]
  · rw [decide_eq_false fun z => h ((clip_con W hc).mp z)]
    simpa using h
theorem clip_one {rs : Fl} {S : List C2} (W : Whole rs S) : (pfTo (clip S) (wdt S) (clsL (clip S).length (wdt S))).1 = [freL (clip S) (wdt S)] := by
  have ok := clip_ok W.ne W.six
  have o := pf_ok ok (clsL (clip S).length (wdt S))
  obtain ⟨x, mx⟩ := List.exists_mem_of_ne_nil _ W.ne
  obtain ⟨c, rfl, _⟩ := Tr_onto W.ne mx
  have hc := (fr_clip W.ne c).mpr mx
  have mc := o.all c (mem_cls.mpr (fre_in ok hc)) hc
  have mF := (mem_freL ok).mpr hc
  have all : ∀ A ∈ (pfTo (clip S) (wdt S) (clsL (clip S).length (wdt S))).1, A = freL (clip S) (wdt S) := fun A m => by
    obtain ⟨d, hd, rfl⟩ := o.is A m
    exact clip_comp W hd _
  have fl := o.fl
  have nd := o.nd
  generalize pfTo (clip S) (wdt S) (clsL (clip S).length (wdt S)) = acc at *
  obtain ⟨A1, A2⟩ := acc
  dsimp only at *
  subst fl
  match A1, all, mc, nd with
  | [], _, mc, _ => exact absurd mc List.not_mem_nil
  | [A], all, _, _ => rw [all A List.mem_cons_self]
  | A :: B :: L, all, _, nd =>
    have h1 := all A List.mem_cons_self
    have h2 := all B (List.mem_cons_of_mem _ List.mem_cons_self)
    rw [h1, h2, List.flatten_cons, List.flatten_cons] at nd
    exact absurd rfl ((List.nodup_append.mp nd).2.2 c mF c (List.mem_append_left _ mF))
theorem freL_len {rs : Fl} {S : List C2} (W : Whole rs S) : (freL (clip S) (wdt S)).length = S.length := by
  have ok := clip_ok W.ne W.six
  rw [← List.length_map (f := Tr S)]
  refine same_len (map_nodup (fun x y => Tr_inj) (freL_nodup _ _)) W.nd fun x => ?_
  rw [List.mem_map]
  constructor
  · rintro ⟨c, m, rfl⟩
    exact (fr_clip W.ne c).mp ((mem_freL ok).mp m)
  · intro m
    obtain ⟨c, rfl, _⟩ := Tr_onto W.ne m
    exact ⟨c, (mem_freL ok).mpr ((fr_clip W.ne c).mpr m), rfl⟩
theorem clip_clip {rs : Fl} {S : List C2} (W : Whole rs S) : clip (freL (clip S) (wdt S)) = clip S := by
  have ok := clip_ok W.ne W.six
  have b := box W.ne
  have mem : ∀ c : C2, c ∈ freL (clip S) (wdt S) ↔ Tr S c ∈ S := fun c => (mem_freL ok).trans (fr_clip W.ne c)
  have r0 : loN (rwN (freL (clip S) (wdt S))) = 0 := by
    obtain ⟨c, m, e⟩ := b.rl
    obtain ⟨d, rfl, _⟩ := Tr_onto W.ne m
    refine lo_spec (List.mem_map.mpr ⟨d, (mem d).mpr m, ?_⟩) fun x _ => Nat.zero_le _
    have : loN (rwN S) + d.1 = loN (rwN S) := e
    omega
  have c0 : loN (clN (freL (clip S) (wdt S))) = 0 := by
    obtain ⟨c, m, e⟩ := b.cl
    obtain ⟨d, rfl, _⟩ := Tr_onto W.ne m
    refine lo_spec (List.mem_map.mpr ⟨d, (mem d).mpr m, ?_⟩) fun x _ => Nat.zero_le _
    have : loN (clN S) + d.2 = loN (clN S) := e
    omega
  have rh : hiN (rwN (freL (clip S) (wdt S))) = hiN (rwN S) - loN (rwN S) := by
    obtain ⟨c, m, e⟩ := b.rh
    obtain ⟨d, rfl, _⟩ := Tr_onto W.ne m
    refine hi_spec (List.mem_map.mpr ⟨d, (mem d).mpr m, ?_⟩) fun x mx => ?_
    · have : loN (rwN S) + d.1 = hiN (rwN S) := e
      omega
    · obtain ⟨y, my, rfl⟩ := List.mem_map.mp mx
      have : loN (rwN S) + y.1 ≤ hiN (rwN S) := (b.r1 _ ((mem y).mp my)).2
      omega
  have ch : hiN (clN (freL (clip S) (wdt S))) = hiN (clN S) - loN (clN S) := by
    obtain ⟨c, m, e⟩ := b.ch
    obtain ⟨d, rfl, _⟩ := Tr_onto W.ne m
    refine hi_spec (List.mem_map.mpr ⟨d, (mem d).mpr m, ?_⟩) fun x mx => ?_
    · have : loN (clN S) + d.2 = hiN (clN S) := e
      omega
    · obtain ⟨y, my, rfl⟩ := List.mem_map.mp mx
      have : loN (clN S) + y.2 ≤ hiN (clN S) := (b.c1 _ ((mem y).mp my)).2
      omega
  obtain ⟨x, mx, _⟩ := b.rl
  have rx := b.r1 x mx
  have cx := b.c1 x mx
  have hh : hgt (freL (clip S) (wdt S)) = hgt S := by
    unfold hgt
    rw [rh, r0]; omega
  have hw : wdt (freL (clip S) (wdt S)) = wdt S := by
    have : hiN (clN (freL (clip S) (wdt S))) + 1 - loN (clN (freL (clip S) (wdt S))) = hiN (clN S) + 1 - loN (clN S) := by rw [ch, c0]; omega
    exact this
  unfold clip at *
  rw [hh, hw, r0, c0]
  refine List.map_congr_left fun i _ => List.map_congr_left fun j _ => ?_
  have m2 := mem (0 + i, 0 + j)
  have e2 : Tr S (0 + i, 0 + j) = (loN (rwN S) + i, loN (clN S) + j) := by unfold Tr; rw [Nat.zero_add, Nat.zero_add]
  rw [e2] at m2
  by_cases z : (loN (rwN S) + i, loN (clN S) + j) ∈ S
  · rw [if_pos z, if_pos (m2.mpr z)]
  · rw [if_neg z, if_neg fun y => z (m2.mp y)]
/-- parts: made of some cells that hang together -/
theorem parts_of {rs : Fl} {w : Nat} (ok : OkF rs w) {P : Fl} (h : P ∈ partsF rs w) : ∃ S, Whole rs S ∧ 1 < S.length ∧ P = clip S := by
  unfold partsF bigS at h
  obtain ⟨S, m, rfl⟩ := List.mem_map.mp h
  obtain ⟨m, l⟩ := List.mem_filter.mp m
  obtain ⟨c, hc, rfl⟩ := (pf_ok ok _).is S m
  exact ⟨_, comp_whole ok hc, of_decide_eq_true l, rfl⟩
theorem parts_okF {rs : Fl} {w : Nat} (ok : OkF rs w) {P : Fl} (h : P ∈ partsF rs w) : ∃ w, OkF P w := by
  obtain ⟨S, W, _, rfl⟩ := parts_of ok h
  exact ⟨_, clip_ok W.ne W.six⟩
theorem ok_wid {P : Fl} {w w' : Nat} (h : OkF P w) (h' : OkF P w') : w = w' := by
  have := (h.ok _ (List.getElem_mem h.n1)).1
  have := (h'.ok _ (List.getElem_mem h.n1)).1
  omega
theorem parts_partF {rs : Fl} {w : Nat} (ok : OkF rs w) {P : Fl} (h : P ∈ partsF rs w) {v : Nat} (okP : OkF P v) : partsF P v = [P] := by
  obtain ⟨S, W, l, rfl⟩ := parts_of ok h
  rw [ok_wid okP (clip_ok W.ne W.six)]
  unfold partsF bigS
  rw [clip_one W, List.filter_cons, if_pos (decide_eq_true (by rw [freL_len W]; exact l)), List.filter_nil, List.map_cons, clip_clip W]
  rfl
/-! moves of the parts -/
def mvB (rs : Fl) (s : Str) (c : C2) : Bool := fre rs c.1 c.2 && fre rs (c.1 + dnF s) (c.2 + rtF s)
theorem mvs_cnt (rs : Fl) (w : Nat) (s : Str) : (mvsL s w rs).length = ((clsL rs.length w).filter (mvB rs s)).length := by
  have e1 : mvsL s w rs = (clsL rs.length w).flatMap fun c => mvAtL s rs c.1 c.2 := by
    unfold mvsL clsL
    rw [List.flatMap_assoc]
    congr 1
    funext i
    rw [List.flatMap_map]
  rw [e1]
  generalize clsL rs.length w = l
  induction l with
  | nil => rfl
  | cons c l ih =>
    rw [List.flatMap_cons, List.length_append, ih, List.filter_cons]
    unfold mvAtL mvB
    by_cases h : fre rs c.1 c.2 = true ∧ fre rs (c.1 + dnF s) (c.2 + rtF s) = true
    · rw [if_pos h, if_pos (by rw [h.1, h.2]; rfl), List.length_singleton, List.length_cons]
      omega
    · rw [if_neg h, if_neg (by rw [Bool.and_eq_true]; exact h), List.length_nil]
      omega
def nbC (s : Str) (c : C2) : C2 := (c.1 + dnF s, c.2 + rtF s)
theorem nb_adj {s : Str} (hs : s = "left" ∨ s = "right") (c : C2) : Adj c (nbC s c) := by
  rcases hs with rfl | rfl
  · have h1 : dnF "left" = 1 := rfl
    have h2 : rtF "left" = 0 := rfl
    unfold Adj nbC
    rw [h1, h2]
    exact Or.inr ⟨rfl, Or.inl rfl⟩
  · have h1 : dnF "right" = 0 := rfl
    have h2 : rtF "right" = 1 := rfl
    unfold Adj nbC
    rw [h1, h2]
    exact Or.inl ⟨rfl, Or.inl rfl⟩
theorem clip_cnt {rs : Fl} {S : List C2} (W : Whole rs S) {s : Str} (hs : s = "left" ∨ s = "right") : (mvsL s (wdt S) (clip S)).length = (S.filter (mvB rs s)).length := by
  have ok := clip_ok W.ne W.six
  rw [mvs_cnt, ← List.length_map (f := Tr S)]
  refine same_len (map_nodup (fun x y => Tr_inj) (List.Nodup.sublist List.filter_sublist (cls_nodup _ _))) (List.Nodup.sublist List.filter_sublist W.nd) fun x => ?_
  rw [List.mem_map, List.mem_filter]
  have nb : ∀ c : C2, Tr S (nbC s c) = nbC s (Tr S c) := fun c => by
    unfold Tr nbC
    exact Prod.ext (by show _ + (c.1 + _) = _ + c.1 + _; omega) (by show _ + (c.2 + _) = _ + c.2 + _; omega)
  have key : ∀ c : C2, mvB (clip S) s c = true ↔ Tr S c ∈ S ∧ mvB rs s (Tr S c) = true := by
    intro c
    unfold mvB
    rw [Bool.and_eq_true, Bool.and_eq_true]
    have h1 : fre (clip S) c.1 c.2 = true ↔ Tr S c ∈ S := fr_clip W.ne c
    have h2 : fre (clip S) (c.1 + dnF s) (c.2 + rtF s) = true ↔ nbC s (Tr S c) ∈ S := by rw [← nb]; exact fr_clip W.ne (nbC s c)
    rw [h1, h2]
    constructor
    · rintro ⟨m1, m2⟩
      exact ⟨m1, W.fr _ m1, W.fr _ m2⟩
    · rintro ⟨m1, _, f2⟩
      exact ⟨m1, (W.cl _ m1 _).mp (.step .base (nb_adj hs _) f2)⟩
  constructor
  · rintro ⟨c, m, rfl⟩
    exact (key c).mp (List.mem_filter.mp m).2
  · rintro ⟨m, f⟩
    obtain ⟨c, rfl, l1, l2⟩ := Tr_onto W.ne m
    exact ⟨c, List.mem_filter.mpr ⟨mem_cls.mpr ⟨by rw [clip_len]; exact l1, l2⟩, (key c).mpr ⟨m, f⟩⟩, rfl⟩
def wdF (P : Fl) : Nat := (P.headD []).length
theorem wdF_eq {P : Fl} {w : Nat} (h : OkF P w) : wdF P = w := by
  unfold wdF
  cases P with
  | nil => exact absurd h.n1 (by decide)
  | cons r P => exact (h.ok r List.mem_cons_self).1
theorem small_none {rs : Fl} {S : List C2} (W : Whole rs S) {s : Str} (hs : s = "left" ∨ s = "right") (l : ¬ 1 < S.length) : (S.filter (mvB rs s)).length = 0 := by
  rw [List.length_eq_zero_iff, List.filter_eq_nil_iff]
  intro c m h
  unfold mvB at h
  rw [Bool.and_eq_true] at h
  have m2 := (W.cl _ m _).mp (.step .base (nb_adj hs c) h.2)
  have ne := (nb_adj hs c).ne
  match S, l, m, m2 with
  | [], _, m, _ => exact List.not_mem_nil m
  | [a], _, m, m2 => exact ne ((List.mem_singleton.mp m).trans (List.mem_singleton.mp m2).symm)
  | a :: b :: S, l, _, _ => exact l (by rw [List.length_cons, List.length_cons]; omega)
theorem sum_moves {rs : Fl} {w : Nat} (ok : OkF rs w) {s : Str} (hs : s = "left" ∨ s = "right") : ((partsF rs w).map fun P => (mvsL s (wdF P) P).length).sum = (mvsL s w rs).length := by
  have o := pf_ok ok (clsL rs.length w)
  unfold partsF
  generalize pfTo rs w (clsL rs.length w) = acc at *
  have key : ∀ L : List (List C2), (∀ S ∈ L, ∃ c, Fr rs c ∧ S = compL rs w c) → ((bigS L).map fun P => (mvsL s (wdF P) P).length).sum = (L.flatten.filter (mvB rs s)).length := by
    intro L
    induction L with
    | nil => intro _; rfl
    | cons S L ih =>
      intro h
      have ih := ih fun S m => h S (List.mem_cons_of_mem _ m)
      obtain ⟨c, hc, e⟩ := h S List.mem_cons_self
      have W : Whole rs S := by rw [e]; exact comp_whole ok hc
      unfold bigS at ih ⊢
      rw [List.flatten_cons, List.filter_append, List.length_append, ← ih, List.filter_cons]
      by_cases l : 1 < S.length
      · rw [if_pos (decide_eq_true l), List.map_cons, List.map_cons, List.sum_cons, wdF_eq (clip_ok W.ne W.six), clip_cnt W hs]
      · rw [if_neg (by simpa using l), small_none W hs l, Nat.zero_add]
  rw [key _ o.is, o.fl, mvs_cnt]
  refine same_len (List.Nodup.sublist List.filter_sublist o.nd) (List.Nodup.sublist List.filter_sublist (cls_nodup _ _)) fun x => ?_
  rw [List.mem_filter, List.mem_filter]
  have fr : mvB rs s x = true → Fr rs x := fun h => by unfold mvB at h; rw [Bool.and_eq_true] at h; exact h.1
  exact ⟨fun h => ⟨mem_cls.mpr (fre_in ok (fr h.2)), h.2⟩, fun h => ⟨o.all x h.1 (fr h.2), h.2⟩⟩
/-- where there is a part there is a move -/
theorem part_move {rs : Fl} {w : Nat} (ok : OkF rs w) (h1 : (mvsL "left" w rs).length = 0) (h2 : (mvsL "right" w rs).length = 0) : partsF rs w = [] := by
  have z : ∀ s : Str, (mvsL s w rs).length = 0 → ∀ c, mvB rs s c = true → False := by
    intro s h c m
    rw [mvs_cnt, List.length_eq_zero_iff, List.filter_eq_nil_iff] at h
    have f : Fr rs c := by unfold mvB at m; rw [Bool.and_eq_true] at m; exact m.1
    exact h c (mem_cls.mpr (fre_in ok f)) m
  have no : ∀ c d : C2, Fr rs c → Fr rs d → Adj c d → False := by
    intro c d hc hd a
    have g : ∀ s : Str, (mvsL s w rs).length = 0 → ∀ c d : C2, Fr rs c → Fr rs d → d = nbC s c → False := by
      rintro s h c d hc hd rfl
      refine z s h c ?_
      unfold mvB
      rw [Bool.and_eq_true]
      exact ⟨hc, hd⟩
    have hl : ∀ c : C2, nbC "left" c = (c.1 + 1, c.2) := fun c => rfl
    have hr : ∀ c : C2, nbC "right" c = (c.1, c.2 + 1) := fun c => rfl
    rcases a with ⟨e1, e2 | e2⟩ | ⟨e1, e2 | e2⟩
    · exact g "right" h2 c d hc hd (by rw [hr]; exact Prod.ext e1.symm e2.symm)
    · exact g "right" h2 d c hd hc (by rw [hr]; exact Prod.ext e1 e2.symm)
    · exact g "left" h1 c d hc hd (by rw [hl]; exact Prod.ext e2.symm e1.symm)
    · exact g "left" h1 d c hd hc (by rw [hl]; exact Prod.ext e2.symm e1)
  rw [List.eq_nil_iff_forall_not_mem]
  intro P m
  obtain ⟨S, W, l, _⟩ := parts_of ok m
  match S, W, l with
  | [], _, l => exact absurd l (by decide)
  | [a], _, l => exact absurd l (by show ¬ 1 < 1; decide)
  | a :: b :: S, W, _ =>
    have mb : b ∈ a :: b :: S := List.mem_cons_of_mem _ List.mem_cons_self
    have con := (W.cl a List.mem_cons_self b).mpr mb
    have ne : a ≠ b := fun e => (List.nodup_cons.mp W.nd).1 (by rw [e]; exact List.mem_cons_self)
    cases con with
    | base => exact ne rfl
    | @step d _ h adj f => exact no d b (h.free (W.fr a List.mem_cons_self)) f adj
/-! the cells of the greatest floor -/
theorem six_cells {n w : Nat} (n6 : n ≤ 6) (w6 : w ≤ 6) (p : C2 → Bool) (h : ∀ c, p c = true → c.1 < n ∧ c.2 < w) : (clsL 6 6).filter p = (clsL n w).filter p := by
  have cut : ∀ (f : Nat → C2) (m k : Nat), (∀ j, m ≤ j → p (f j) = false) → ((List.range (m + k)).map f).filter p = ((List.range m).map f).filter p := by
    intro f m k hf
    induction k with
    | zero => rfl
    | succ k ih =>
      rw [show m + (k + 1) = (m + k) + 1 by omega, List.range_succ, List.map_append, List.filter_append, ih, List.map_cons, List.filter_cons, if_neg (by rw [hf (m + k) (by omega)]; decide)]
      simp
  have cut2 : ∀ (g : Nat → List C2) (m k : Nat), (∀ j, m ≤ j → g j = []) → (List.range (m + k)).flatMap g = (List.range m).flatMap g := by
    intro g m k hg
    induction k with
    | zero => rfl
    | succ k ih =>
      rw [show m + (k + 1) = (m + k) + 1 by omega, List.range_succ, List.flatMap_append, ih, List.flatMap_cons, hg (m + k) (by omega)]
      simp
  have no : ∀ c, ¬ (c.1 < n ∧ c.2 < w) → p c = false := fun c z => by
    cases hp : p c
    · rfl
    · exact absurd (h c hp) z
  have row : ∀ i, ((List.range 6).map fun j => ((i, j) : C2)).filter p = ((List.range w).map fun j => ((i, j) : C2)).filter p := by
    intro i
    have := cut (fun j => (i, j)) w (6 - w) fun j hj => no _ fun z => by have : j < w := z.2; omega
    rw [show w + (6 - w) = 6 by omega] at this
    exact this
  unfold clsL
  rw [List.filter_flatMap, List.filter_flatMap]
  have e1 : (fun i => ((List.range 6).map fun j => ((i, j) : C2)).filter p) = fun i => ((List.range w).map fun j => ((i, j) : C2)).filter p := funext row
  have e2 := cut2 (fun i => ((List.range w).map fun j => ((i, j) : C2)).filter p) n (6 - n) fun i hi => by
    rw [List.filter_eq_nil_iff]
    intro c m
    obtain ⟨j, _, rfl⟩ := List.mem_map.mp m
    rw [no (i, j) fun z => by have : i < n := z.1; omega]
    decide
  rw [show n + (6 - n) = 6 by omega] at e2
  rw [show (fun i => List.filter p ((List.range 6).map fun j => ((i, j) : C2))) = _ from e1]
  exact e2
section
variable {g : TG} {tt : TT} {te : TE} {vs : List Nat} {σ : L2.St} {Q : VK} {H1 : Hp}
theorem lcR_rngLo {lo : Int} {n : Nat} (f : Nat → Option V) (len : n < sizeLine) (t : ∀ i, i < n → turnR g tt te vs σ (.int (lo + (i : Int))) (f i) H1)
    (q : ∀ D H', H1 D = none → Ex H1 H' → H' D = some (.lst ((List.range n).filterMap f)) → Q (.ref D) H') : lcR g tt te vs σ Q (Itr lo n) H1 := by
  intro D hD
  refine lc_range (lo := lo) (n := n) (fun i H => Ex H1 H ∧ H D = some (.lst ((List.range i).filterMap f))) ⟨Evl.Ex.new hD, upd_same⟩ (fun i H hi p => ?_) (fun H p => q D H hD p.1 p.2)
  refine turn_in (t i hi) p.1 hD p.2 ?_ fun H' e h' => ⟨e, ?_⟩
  · refine Nat.lt_of_le_of_lt (Nat.le_trans (List.length_filterMap_le _ _) ?_) (Nat.lt_trans hi len)
    rw [List.length_range]; exact Nat.le_refl i
  · rw [h', List.range_succ, List.filterMap_append]
    cases h : f i <;> simp [h]
end
theorem lock_ex {H H' : Hp} {D : Addr} {u o : HO} (hD : H D = some u) (e : Ex (upd H D o) H') : Ex H (upd H' D u) := fun c x z => by
  by_cases h : c = D
  · subst h
    rw [hD] at z
    rw [upd_same]; exact z
  · rw [upd_ne h]
    exact e c x ((upd_ne h).trans z)
def castL (l : List Nat) : List Int := l.map fun n : Nat => (n : Int)
theorem cast_lo {l : List Nat} {m : Int} (h : m ∈ castL l) (hm : ∀ y ∈ castL l, m ≤ y) : m = (loN l : Int) := by
  obtain ⟨k, mk, rfl⟩ := List.mem_map.mp h
  have := lo_spec mk fun x mx => by
    have := hm (x : Int) (List.mem_map.mpr ⟨x, mx, rfl⟩)
    omega
  rw [this]
theorem cast_hi {l : List Nat} {m : Int} (h : m ∈ castL l) (hm : ∀ y ∈ castL l, y ≤ m) : m = (hiN l : Int) := by
  obtain ⟨k, mk, rfl⟩ := List.mem_map.mp h
  have := hi_spec mk fun x mx => by
    have := hm (x : Int) (List.mem_map.mpr ⟨x, mx, rfl⟩)
    omega
  rw [this]
theorem castL_len (l : List Nat) : (castL l).length = l.length := by unfold castL; exact List.length_map _
/-- the row of a part's floor -/
def rowC (S : List C2) (i : Nat) : List Nat := (List.range (wdt S)).map fun j => if (loN (rwN S) + i, loN (clN S) + j) ∈ S then 46 else 35
theorem clip_rows (S : List C2) : clip S = (List.range (hgt S)).map (rowC S) := rfl
theorem clip_rows_V (S : List C2) : rowsV (clip S) = (List.range (hgt S)).map fun i => V.str (tx (rowC S i)) := by
  unfold rowsV
  rw [clip_rows, List.map_map]
  rfl
end Mine
namespace Mine
open PySem PySem.W
/-! a world whose one asked flag is written: the top's run in both cases -/
noncomputable def setF (w : World) (b : Bool) : World := { w with params := { w.params with followText := fun s => (Bool.rec (w.params.followText s) b (decide (s = "special-get-raises")) : Bool) } }
theorem setF_eq (w : World) : setF w (w.params.followText "special-get-raises") = w := by
  have e : (fun s => (Bool.rec (w.params.followText s) (w.params.followText "special-get-raises") (decide (s = "special-get-raises")) : Bool)) = w.params.followText := by
    funext s
    cases q : decide (s = "special-get-raises") with
    | false => rfl
    | true => rw [of_decide_eq_true q]
  unfold setF
  rw [e]
theorem bothF {p : World → Prop} (h0 : ∀ w, p (setF w false)) (h1 : ∀ w, p (setF w true)) (w : World) : p w := by
  rw [← setF_eq w]
  cases w.params.followText "special-get-raises"
  · exact h0 w
  · exact h1 w
end Mine
namespace Mine
open PySem PySem.Spec PyProof.Rows L2
open Evl (Ex)

local macro_rules | `(tactic| walk_at "mcond") => `(tactic| first
  | (show (0 : Int) < _; omega)
  | (show (0 : Int) ≤ _; omega)
  | (show CDiv _ _; exact ⟨by omega, by omega⟩)
  | (show CPow _ _; exact ⟨by omega, by omega, by omega⟩)
  | (show CMul _ _; exact Or.inl ⟨by omega, by omega⟩)
  | (show CMul _ _; exact Or.inr ⟨by omega, by omega⟩)
  | assumption)
local macro_rules | `(tactic| walk_at "mtr") => `(tactic| first
  | assumption
  | (refine tr_step (H := ?_) ?_ ?_; rotate_left; (focus assumption); walk_at "mtr"))
local macro_rules | `(tactic| walk_at "msq") => `(tactic| first
  | assumption
  | (refine k_sq ?_; walk_at "mtr")
  | (refine k_st ?_; walk_at "mtr")
  | exact Evl.ex_l (by first | assumption | solve_by_elim) (by assumption)
  | exact Evl.ex_t (by first | assumption | solve_by_elim) (by assumption))
local macro_rules | `(tactic| walk_at "mins") => `(tactic| walk_at "mtr")
local macro_rules | `(tactic| walk_at "mcls") => `(tactic| first | assumption | (apply FDyadic.cl; assumption))
local macro_rules | `(tactic| walk_at "mna") => `(tactic| first | assumption | (apply FDyadic.nt; assumption) | (apply FDyadic.np; assumption))
local macro_rules | `(tactic| walk_at "mlk") => `(tactic| first | assumption | exact dfs_top _ _ | exact dfs_power _ _)
local macro_rules | `(tactic| walk_at "mdy") => `(tactic| first
  | assumption
  | (refine dy_tr (H := ?_) ?_ ?_; rotate_left; (focus assumption); walk_at "mdy"))
local macro_rules | `(tactic| walk_at "mst") => `(tactic| first
  | with_reducible refine k_seq ?_
  | with_reducible refine k_asg ?_
  | ((with_reducible refine k_fldv (v := ?_) (fs := ?_) (C := ?_) (dx := ?_) (a := ?_) ?_ ?_ ?_ ?_ ?_ ?_); rotate_left 5; (focus exact rfl); (focus walk_at "mins"); (focus walk_at "mcls"); (focus walk_at "mna"); (focus walk_at "mlk"))
  | with_reducible refine k_name ?_
  | ((with_reducible refine k_var (v := ?_) ?_ ?_); rotate_left; (focus exact rfl))
  | with_reducible refine k_c ?_
  | with_reducible refine k_op ?_
  | with_reducible refine k_un ?_
  | with_reducible refine k_I0 ?_
  | with_reducible refine k_pow12 ?_
  | with_reducible refine k_pow18 ?_
  | with_reducible refine k_pow11 ?_
  | with_reducible refine k_pow9 ?_
  | with_reducible refine k_pow30 ?_
  | ((with_reducible refine k_shl1 ?_ ?_); (focus (constructor <;> omega)); intro _ _ _)
  | ((with_reducible refine k_minL ?_); intro _ _ _ _)
  | ((with_reducible refine k_maxL ?_); intro _ _ _ _)
  | ((with_reducible refine k_I ?_ ?_); (focus walk_at "mcond"))
  | with_reducible refine k_U ?_
  | with_reducible refine k_eqI ?_
  | with_reducible refine k_eqB ?_
  | with_reducible refine k_neI ?_
  | with_reducible refine k_isTy ?_
  | with_reducible refine k_isiII ?_
  | with_reducible refine k_isiIB ?_
  | with_reducible refine k_isiBB ?_
  | with_reducible refine k_isN ?_
  | with_reducible refine k_notN ?_
  | with_reducible refine k_chain ?_
  | with_reducible refine k_bl ?_
  | with_reducible refine k_test ?_
  | with_reducible refine k_B ?_
  | with_reducible refine k_and ?_
  | with_reducible refine k_or ?_
  | with_reducible refine k_not ?_
  | with_reducible refine k_if ?_
  | with_reducible refine k_ifS ?_
  | with_reducible refine k_andV ?_
  | with_reducible refine k_orV ?_
  | with_reducible refine k_notV ?_
  | with_reducible refine k_tup ?_
  | with_reducible refine k_lst ?_
  | with_reducible refine k_cb ?_
  | with_reducible refine k_nil ?_
  | with_reducible refine k_cons ?_
  | with_reducible refine k_rInt ?_
  | with_reducible refine k_rAbs ?_
  | with_reducible refine k_rMax ?_
  | with_reducible refine k_rMin ?_
  | ((with_reducible refine k_rLenL (ys := ?_) ?_ ?_); rotate_left; (focus walk_at "msq"))
  | ((with_reducible refine k_rLenT (ys := ?_) ?_ ?_); rotate_left; (focus walk_at "msq"))
  | with_reducible refine k_bm ?_
  | with_reducible refine k_bm0 ?_
  | ((with_reducible refine k_tyl (xs := ?_) ?_ ?_); rotate_left; (focus walk_at "msq"))
  | ((with_reducible refine k_rApp (xs := ?_) ?_ ?_ ?_); rotate_left; (focus walk_at "mtr"))
  | ((with_reducible refine dy_meth (t := ?_) (p := ?_) ?_ ?_ ?_ ?_); rotate_left 2; (focus walk_at "mdy"); (focus decide +kernel); (focus decide +kernel))
  | ((with_reducible refine dy_prop (t := ?_) (p := ?_) ?_ ?_); rotate_left 2; (focus walk_at "mdy"))
  | ((with_reducible refine dy_isC (t := ?_) (p := ?_) ?_ ?_); rotate_left 2; (focus walk_at "mdy"))
  | with_reducible refine k_call ?_
  | with_reducible refine k_meth ?_
  | with_reducible refine k_make ?_
  | with_reducible refine k_prop ?_
  | with_reducible refine k_ret ?_
  | with_reducible refine k_drop ?_
  | with_reducible refine k_next ?_
  | with_reducible refine k_for ?_
  | with_reducible refine k_rng1 ?_
  | with_reducible refine k_rng2 ?_
  | with_reducible refine k_ilist ?_
  | with_reducible refine k_itup ?_
  | with_reducible refine k_iteT ?_
  | with_reducible refine k_iteNT ?_
  | with_reducible refine k_iteNF ?_
  | with_reducible refine k_raise ?_
  | with_reducible refine k_iteF ?_
  | ((with_reducible refine k_ixT (xs := ?_) (v := ?_) ?_ ?_ ?_); rotate_left 2; (focus walk_at "msq"); (focus exact rfl))
  | with_reducible refine k_gnil ?_
  | with_reducible refine k_gcons ?_)
local macro_rules | `(tactic| walk_at "mcls") => `(tactic| first | assumption | (apply FYard.cl; assumption))
local macro_rules | `(tactic| walk_at "mna") => `(tactic| first | assumption | (apply FYard.nl; assumption) | (apply FYard.nr; assumption) | (apply FYard.nh; assumption) | (apply FYard.nn; assumption) | (apply FYard.nt; assumption))
local macro_rules | `(tactic| walk_at "mlk") => `(tactic| first | exact yfs_l _ | exact yfs_r _ | exact yfs_h _ | exact yfs_n _ | exact yfs_t _)
local macro_rules | `(tactic| walk_at "myd") => `(tactic| first
  | assumption
  | (refine YardAt.ex (H := ?_) ?_ ?_; rotate_right; (focus assumption); walk_at "myd"))
local macro_rules | `(tactic| walk_at "mst") => `(tactic| first
  | with_reducible refine k_sfl ?_
  | with_reducible refine k_lc ?_
  | with_reducible refine k_dnew ?_
  | with_reducible refine k_tru ?_
  | with_reducible refine k_rng3 ?_
  | with_reducible refine k_gsub ?_
  | with_reducible refine k_set1 ?_
  | with_reducible refine k_sadd ?_
  | with_reducible refine k_revL ?_
  | with_reducible refine k_nnot ?_
  | with_reducible refine k_nget ?_
  | with_reducible refine k_nput ?_
  | with_reducible refine k_dget ?_
  | with_reducible refine k_din ?_
  | with_reducible refine k_dnotin ?_
  | with_reducible refine k_dput ?_
  | with_reducible refine k_tsl ?_
  | with_reducible refine k_part ?_
  | with_reducible refine k_nopart ?_
  | with_reducible refine k_exi ?_
  | ((with_reducible refine k_rTupL (ys := ?_) ?_ ?_); rotate_left; (focus walk_at "msq"))
  | ((with_reducible refine k_rListL (ys := ?_) ?_ ?_); rotate_left; (focus walk_at "msq"))
  | ((with_reducible refine k_rListT (ys := ?_) ?_ ?_); rotate_left; (focus walk_at "msq"))
  | ((with_reducible refine k_in (ns := ?_) ?_ ?_); rotate_left; (focus walk_at "msq")))
def sp_law_digits (K : PySem.W.Frag) : Sp := fun vs H Q _ => ∃ (c : Int) (n : Nat), vs = [.int c, .int (n : Int)] ∧ n ≤ 1000 ∧ ∀ p H', H p = none → Ex H H' → H' p = some (.lst ((dgF c n).map V.int)) → Q (.ref p) H'
abbrev N_law_digits : List Str := ["cell", "count", "row", "k", "seed"]
def t_law_digits (K : PySem.W.Frag) (E : XK) : TS := (tSeq (tAsg (tLst tNil) (gName 2)) (tSeq (tIfS (tTest (tOp rGeI (tVar 0) (tOp rPowI (tC (.int 10)) (tC (.int 18))))) (tSeq (tFor (iRng1 (tCons (tVar 1) tNil)) (gName 3) (tSeq (tDrop (tBM K "list" rAppend (tVar 2) (tCons (tOp rModI (tCB rIntI (tCons (tVar 0) tNil)) (tC (.int 60))) tNil))) (tAsg (tOp rDivI (tVar 0) (tC (.int 60))) (gName 0)))) (tRet (tVar 2))) tNext) (tSeq (tAsg (tOp rModI (tCB rIntI (tCons (tOp rAddI (tOp rMulI (tVar 0) (tC (.int 48271))) (tC (.int 11))) tNil)) (tC (.int 2147483647))) (gName 4)) (tSeq (tFor (iRng1 (tCons (tVar 1) tNil)) (gName 3) (tSeq (tAsg (tOp rModI (tCB rIntI (tCons (tOp rAddI (tOp rAddI (tOp rMulI (tVar 4) (tC (.int 69621))) (tOp rMulI (tC (.int 7)) (tVar 3))) (tC (.int 1))) tNil)) (tC (.int 2147483629))) (gName 4)) (tDrop (tBM K "list" rAppend (tVar 2) (tCons (tOp rModI (tCB rIntI (tCons (tOp rDivI (tVar 4) (tC (.int 64))) tNil)) (tC (.int 60))) tNil))))) (tRet (tVar 2))))))
theorem len_law_digits {K : PySem.W.Frag} {vs : List V} {H : Hp} {Q : VK} {E : XK} (h : sp_law_digits K vs H Q E) : vs.length = 2 := by
  obtain ⟨_, _, rfl, _⟩ := h; rfl
theorem map_more (ds : List Int) (z : Int) : ds.map V.int ++ [V.int z] = (ds ++ [z]).map V.int := by simp
theorem pure_law_digits {K : PySem.W.Frag} (vs : List V) (H : Hp) (Q : VK) (E : XK) (h : sp_law_digits K vs H Q E) : t_law_digits K E { nx := fun _ H' => Q .non H', rt := Q } (start N_law_digits vs) H := by
  obtain ⟨c, n, rfl, h1, q⟩ := h
  unfold t_law_digits
  repeat walk_at "mst"
  refine ⟨by show 0 ≤ sizeLine; decide, fun p hp => ?_⟩
  repeat walk_at "mst"
  refine k_iteD (fun hc => ?_) (fun hc => ?_)
  · have e : dgF c n = (dgA c n).1 := by unfold dgF; rw [if_pos hc]
    rw [e] at q
    repeat walk_at "mst"
    refine ⟨_, rfl, by omega, by omega, ?_⟩
    rw [Int.toNat_natCast]
    refine forK_range (fun i σ H' => Ex H H' ∧ ∃ (v w : Option V), H' p = some (.lst ((dgA c i).1.map V.int)) ∧ σ = [some (.int (dgA c i).2), some (.int (n : Int)), some (.ref p), v, w]) ?_ ?_ ?_
    · exact ⟨Evl.Ex.new hp, none, none, upd_same, rfl⟩
    · rintro i σ H' hi ⟨e, v, w, hl, rfl⟩
      have l := dgA_len c i
      repeat walk_at "mst"
      · exact k_sizeL (by omega)
      repeat walk_at "mst"
      exact ⟨Evl.Ex.mut e hp, _, _, by rw [upd_same, map_more]; rfl, rfl⟩
    · rintro σ H' ⟨e, v, w, hl, rfl⟩
      repeat walk_at "mst"
      exact q p H' hp e hl
  · have e : dgF c n = (dgB c n).1 := by unfold dgF; rw [if_neg hc]
    rw [e] at q
    repeat walk_at "mst"
    refine ⟨_, rfl, by omega, by omega, ?_⟩
    rw [Int.toNat_natCast]
    refine forK_range (fun i σ H' => Ex H H' ∧ ∃ (v : Option V), H' p = some (.lst ((dgB c i).1.map V.int)) ∧ σ = [some (.int c), some (.int (n : Int)), some (.ref p), v, some (.int (dgB c i).2)]) ?_ ?_ ?_
    · exact ⟨Evl.Ex.new hp, _, upd_same, rfl⟩
    · rintro i σ H' hi ⟨e, v, hl, rfl⟩
      have l := dgB_len c i
      repeat walk_at "mst"
      · exact k_sizeL (by omega)
      repeat walk_at "mst"
      exact ⟨Evl.Ex.mut e hp, _, by rw [upd_same, map_more]; rfl, rfl⟩
    · rintro σ H' ⟨e, v, hl, rfl⟩
      repeat walk_at "mst"
      exact q p H' hp e hl
theorem use_digits {K : PySem.W.Frag} {H : Hp} {Q : VK} {E : XK} {c : Int} (n : Nat) (h : n ≤ 1000) (q : ∀ p H', H p = none → Ex H H' → H' p = some (.lst ((dgF c n).map V.int)) → Q (.ref p) H') : sp_law_digits K ([.int c, .int (n : Int)] ++ []) H Q E := ⟨c, n, rfl, h, q⟩
def sp_law_rows (K : PySem.W.Frag) : Sp := fun vs H Q _ => ∃ c : Int, vs = [.int c] ∧ ∀ p H', H p = none → Ex H H' → H' p = some (.lst (rowsV (rowsF c))) → Q (.ref p) H'
local macro_rules | `(tactic| walk_at "new") => `(tactic| ((first | refine ⟨fits (Nat.le_of_ble_eq_true rfl), ?_⟩ | skip); intro p np; generalize hq : upd _ p _ = H1; have e1 := nx np hq; have s1 := nS hq; clear hq))
abbrev N_law_rows : List Str := ["cell", "digits", "wide", "often", "rows", "line", "k"]
def t_law_rows (K : PySem.W.Frag) (E : XK) : TS := (tSeq (tAsg (tCall (sp_law_digits K) [] E0 (tCons (tVar 0) (tCons (tC (.int 39)) tNil))) (gName 1)) (tSeq (tAsg (tOp rAddI (tC (.int 1)) (tOp rModI (tCB rIntI (tCons (tOp (rIxL K) (tVar 1) (tC (.int 1))) tNil)) (tC (.int 6)))) (gName 2)) (tSeq (tAsg (tOp rAddI (tC (.int 2)) (tOp rModI (tCB rIntI (tCons (tOp (rIxL K) (tVar 1) (tC (.int 2))) tNil)) (tC (.int 4)))) (gName 3)) (tSeq (tAsg (tLst tNil) (gName 4)) (tSeq (tFor (iRng1 (tCons (tOp rAddI (tC (.int 1)) (tOp rModI (tCB rIntI (tCons (tOp (rIxL K) (tVar 1) (tC (.int 0))) tNil)) (tC (.int 6)))) tNil)) (gName 5) (tDrop (tBM K "list" rAppend (tVar 4) (tCons (tBM K "str" (rJoinS K) (tC (.str "")) (tCons (tLc (iRng1 (tCons (tVar 2) tNil)) (gName 6) tYes (tIf (tTest (tOp rEq (tOp rModI (tCB rIntI (tCons (tOp (rIxL K) (tVar 1) (tOp rAddI (tOp rAddI (tC (.int 3)) (tOp rMulI (tC (.int 6)) (tVar 5))) (tVar 6))) tNil)) (tVar 3)) (tC (.int 1)))) (tC (.str "#")) (tC (.str "."))) [6]) tNil)) tNil)))) (tRet (tVar 4)))))))
theorem len_law_rows {K : PySem.W.Frag} {vs : List V} {H : Hp} {Q : VK} {E : XK} (h : sp_law_rows K vs H Q E) : vs.length = 1 := by
  obtain ⟨_, rfl, _⟩ := h; rfl
theorem pure_law_rows {K : PySem.W.Frag} (vs : List V) (H : Hp) (Q : VK) (E : XK) (h : sp_law_rows K vs H Q E) : t_law_rows K E { nx := fun _ H' => Q .non H', rt := Q } (start N_law_rows vs) H := by
  obtain ⟨c, rfl, q⟩ := h
  unfold t_law_rows
  repeat walk_at "mst"
  refine use_digits 39 (by decide) fun dp H1 ndp e1 hd => ?_
  have hb := dgF_in c 39
  have hl := dgF_len c 39
  unfold rowsF rowsD at q
  have hw : widD (dgF c 39) = (1 + (dgF c 39).getD 1 0 % 6).toNat := rfl
  have hr : ∀ l, rowD (dgF c 39) l = (List.range (widD (dgF c 39))).map fun k => if (dgF c 39).getD (3 + 6 * l + k) 0 % (2 + (dgF c 39).getD 2 0 % 4) = 1 then 35 else 46 := fun _ => rfl
  generalize rowD (dgF c 39) = rowOf at *
  generalize widD (dgF c 39) = wide at *
  generalize dgF c 39 = ds at *
  obtain ⟨d1, a1, b1, r1⟩ := dg_of hb (k := 1) (by decide) (by omega)
  obtain ⟨d2, a2, b2, r2⟩ := dg_of hb (k := 2) (by decide) (by omega)
  obtain ⟨d0, a0, b0, r0⟩ := dg_of hb (k := 0) (by decide) (by omega)
  have r0 : d0 = ds.getD 0 0 := r0
  have r1 : d1 = ds.getD 1 0 := r1
  have r2 : d2 = ds.getD 2 0 := r2
  rw [← r0] at q
  rw [← r1] at hw
  rw [← r2] at hr
  repeat walk_at "mst"
  refine k_ixL (k_sq hd) a1 ?_
  repeat walk_at "mst"
  refine k_ixL (k_sq hd) a2 ?_
  repeat walk_at "mst"
  walk_at "new"; rename_i rp nrp H2 e2 s2
  have hd2 := e2 _ _ hd
  have nrp0 : H rp = none := Evl.fresh_back e1 nrp
  repeat walk_at "mst"
  refine k_ixL (k_sq hd2) a0 ?_
  repeat walk_at "mst"
  refine ⟨_, rfl, by omega, by omega, ?_⟩
  have ew : (1 + d1 % 6 : Int) = (wide : Int) := by omega
  rw [ew]
  refine forK_range (fun i σ H' => Ex H1 H' ∧ H' rp = some (.lst (rowsV ((List.range i).map rowOf))) ∧ ∃ x5 : Option V, σ = [some (.int c), some (.ref dp), some (.int (wide : Int)), some (.int (2 + d2 % 4)), some (.ref rp), x5, none]) ⟨e2, s2, _, rfl⟩ ?_ ?_
  · rintro i σ H3 hi ⟨e3, h3, x5, rfl⟩
    have hd3 := e3 _ _ hd
    repeat walk_at "mst"
    refine k_tyX ?_
    repeat walk_at "mst"
    refine ⟨_, rfl, by omega, by omega, ?_⟩
    rw [Int.toNat_natCast]
    refine lcR_rng (n := wide) (fun k => some (V.str (tx [if ds.getD (3 + 6 * i + k) 0 % (2 + d2 % 4) = 1 then 35 else 46]))) (fits' (by omega)) (fun k hk => ?_) fun pk H4 np e4 hpk => ?_
    · refine turn_map fun H'' e R r => ?_
      obtain ⟨z, h1, _, h4⟩ := dg_of hb (k := 3 + 6 * (i : Int) + (k : Int)) (by omega) (by omega)
      have hd' := e _ _ hd3
      repeat walk_at "mst"
      refine k_ixL (k_sq hd') h1 ?_
      rw [show (3 + 6 * (i : Int) + (k : Int)).toNat = 3 + 6 * i + k by omega] at h4
      rw [← h4] at r
      repeat walk_at "mst"
      refine k_iteD (fun z1 => ?_) (fun z1 => ?_)
      · rw [if_pos z1] at r
        repeat walk_at "mst"
        exact r
      · rw [if_neg z1] at r
        repeat walk_at "mst"
        exact r
    · have em : (List.range wide).filterMap (fun (k : Nat) => some (V.str (tx [if ds.getD (3 + 6 * i + k) 0 % (2 + d2 % 4) = 1 then 35 else 46]))) = (rowOf i).map fun c => V.str (tx [c]) := by
        rw [hr i, List.map_map]
        exact congrFun (List.filterMap_eq_map (f := fun (k : Nat) => V.str (tx [if ds.getD (3 + 6 * i + k) 0 % (2 + d2 % 4) = 1 then 35 else 46]))) _
      rw [em] at hpk
      have lr : (rowOf i).length = wide := by rw [hr i, List.length_map, List.length_range]
      have h34 := e4 _ _ h3
      repeat walk_at "mst"
      refine k_joinX (k_sq hpk) (by omega) ?_
      repeat walk_at "mst"
      · rw [rowsV_len, List.length_map, List.length_range]; exact fits' (by omega)
      refine ⟨Evl.Ex.mut (e3.trans e4) nrp, ?_, _, rfl⟩
      rw [upd_same, List.range_succ, List.map_append]
      unfold rowsV
      rw [List.map_append]
      rfl
  · rintro σ H3 ⟨e3, h3, x5, rfl⟩
    repeat walk_at "mst"
    exact q rp H3 nrp0 (e1.trans e3) h3
theorem use_rows {K : PySem.W.Frag} {H : Hp} {Q : VK} {E : XK} {c : Int} (q : ∀ p H', H p = none → Ex H H' → H' p = some (.lst (rowsV (rowsF c))) → Q (.ref p) H') : sp_law_rows K ([.int c] ++ []) H Q E := ⟨c, rfl, q⟩
def sp_law_cell (K : PySem.W.Frag) : Sp := fun vs H Q _ => ∃ (a : Addr) (ns : List Int) (k : Int), vs = [.ref a, .int k] ∧ SqL K H a (ns.map V.int) ∧ 0 ≤ k ∧ Q (.int (cellF ns k)) H
abbrev N_law_cell : List Str := ["script", "k", "mixed", "cell"]
def t_law_cell (K : PySem.W.Frag) (E : XK) : TS := (tSeq (tIfS (tTest (tOp rLtI (tVar 1) (tCB (rLenQ K) (tCons (tVar 0) tNil)))) (tRet (tOp (rIxL K) (tVar 0) (tVar 1))) tNext) (tSeq (tAsg (tOp rAddI (tOp rMulI (tC (.int 104729)) (tVar 1)) (tC (.int 7))) (gName 2)) (tSeq (tFor (iList K (tVar 0)) (gName 3) (tAsg (tOp rModI (tCB rIntI (tCons (tOp rAddI (tOp rMulI (tVar 2) (tC (.int 31))) (tVar 3)) tNil)) (tC (.int 2147483647))) (gName 2))) (tRet (tVar 2)))))
theorem len_law_cell {K : PySem.W.Frag} {vs : List V} {H : Hp} {Q : VK} {E : XK} (h : sp_law_cell K vs H Q E) : vs.length = 2 := by
  obtain ⟨_, _, _, rfl, _⟩ := h; rfl
theorem pure_law_cell {K : PySem.W.Frag} (vs : List V) (H : Hp) (Q : VK) (E : XK) (h : sp_law_cell K vs H Q E) : t_law_cell K E { nx := fun _ H' => Q .non H', rt := Q } (start N_law_cell vs) H := by
  obtain ⟨a, ns, k, rfl, hS, hk, q⟩ := h
  unfold t_law_cell
  repeat walk_at "mst"
  refine k_iteD (fun hc => ?_) (fun hc => ?_)
  · rw [List.length_map] at hc
    obtain ⟨z, mz, hz⟩ := at_int hk hc
    have e : cellF ns k = z := by
      unfold cellF
      rw [if_pos hc, List.getD_eq_getElem?_getD, mz]; rfl
    rw [e] at q
    repeat walk_at "mst"
    exact k_ixL hS hz q
  · rw [List.length_map] at hc
    have e : cellF ns k = ns.foldl (fun m c => (m * 31 + c) % 2147483647) (104729 * k + 7) := by
      unfold cellF
      rw [if_neg hc]
    rw [e] at q
    repeat walk_at "mst"
    refine ⟨a, rfl, ⟨_, hS⟩, forK_list (xs := ns.map V.int) (fun i σ H' => H' = H ∧ ∃ (v : Option V), σ = [some (.ref a), some (.int k), some (.int ((ns.take i).foldl (fun m c => (m * 31 + c) % 2147483647) (104729 * k + 7))), v]) ⟨rfl, _, rfl⟩ ?_ ?_ ?_⟩
    · rintro i σ H' _ ⟨rfl, _⟩; exact hS
    · rintro i x σ H' hx ⟨rfl, v, rfl⟩
      obtain ⟨z, hz, rfl⟩ := get_int hx
      repeat walk_at "mst"
      refine ⟨rfl, some (.int z), ?_⟩
      rw [List.take_add_one, hz, List.foldl_append]
      rfl
    · rintro σ H' ⟨rfl, v, rfl⟩
      rw [List.length_map, List.take_of_length_le (Nat.le_refl _)]
      repeat walk_at "mst"
      exact q
theorem use_cell {K : PySem.W.Frag} {H : Hp} {Q : VK} {E : XK} {a : Addr} {ns : List Int} {k : Int} (h : SqL K H a (ns.map V.int)) (h0 : 0 ≤ k) (q : Q (.int (cellF ns k)) H) : sp_law_cell K ([.ref a, .int k] ++ []) H Q E := ⟨a, ns, k, rfl, h, h0, q⟩
def sp_Floor_d_init (K : PySem.W.Frag) : Sp := fun vs H Q E => ∃ (p dx : Addr) (x : V), vs = [.ref p, x] ∧ H p = some (.ins (He.ga K "Floor") dx []) ∧ (
  (∃ a rs w, x = .ref a ∧ SqL K H a (rowsV rs) ∧ OkF rs w ∧ ∀ t H', H t = none → (∀ c o, H c = some o → c ≠ p → H' c = some o) → H' t = some (.tup (rowsV rs)) → H' p = some (.ins (He.ga K "Floor") dx (gfl t)) → Q .non H')
  ∨ (∃ T, TyB K H x T ∧ T ≠ "list" ∧ E (.ref (He.ga K "BadValue")) none H)
  ∨ (∃ a xs, x = .ref a ∧ SqL K H a xs ∧ xs.length ≤ 100 ∧ (∀ v ∈ xs, Kn K H v) ∧ NoF xs ∧ ∀ H', Ex H H' → E (.ref (He.ga K "BadValue")) none H'))
theorem k_NT {H : Hp} {Q : VK} {a b : String} (q : Q (.bl (!decide (a = b))) H) : rNT (.ty a) (.ty b) H Q := ⟨a, b, rfl, rfl, q⟩
abbrev N_Floor_d_init : List Str := ["self", "rows", "row", "cell"]
def t_Floor_d_init (K : PySem.W.Frag) (E : XK) : TS := (tSeq (tIfS (tOr (tTest (tOp rNT (tCB (rTyp K) (tCons (tVar 1) tNil)) (tC (.ty "list")))) (tNot (tTest (tChain rLeI rLeI (tC (.int 1)) (tCB (rLenQ K) (tCons (tVar 1) tNil)) (tC (.int 6)))))) (tRaise E (.ref (He.ga K "BadValue"))) tNext) (tSeq (tFor (iList K (tVar 1)) (gName 2) (tSeq (tIfS (tOr (tTest (tOp rNT (tCB (rTyp K) (tCons (tVar 2) tNil)) (tC (.ty "str")))) (tOr (tNot (tTest (tChain rLeI rLeI (tC (.int 1)) (tCB rLenS (tCons (tVar 2) tNil)) (tC (.int 6))))) (tTest (tOp rNe (tCB rLenS (tCons (tVar 2) tNil)) (tCB rLenS (tCons (tOp (rIxL K) (tVar 1) (tC (.int 0))) tNil)))))) (tRaise E (.ref (He.ga K "BadValue"))) tNext) (tIfS (tNot (tB (tCB (rAll K) (tCons (tLc (iStr (tVar 2)) (gName 3) tYes (tOp (rIn K false) (tVar 3) (tTup (tCons (tC (.str ".")) (tCons (tC (.str "#")) tNil)))) [3]) tNil)))) (tRaise E (.ref (He.ga K "BadValue"))) tNext))) (sFld K (tVar 0) (tCB (rTupL K) (tCons (tVar 1) tNil)) "_rows")))
theorem len_Floor_d_init {K : PySem.W.Frag} {vs : List V} {H : Hp} {Q : VK} {E : XK} (h : sp_Floor_d_init K vs H Q E) : vs.length = 2 := by
  obtain ⟨_, _, _, rfl, _⟩ := h; rfl
theorem pure_Floor_d_init {K : PySem.W.Frag} (F : FFloor K) (vs : List V) (H : Hp) (Q : VK) (E : XK) (h : sp_Floor_d_init K vs H Q E) : t_Floor_d_init K E { nx := fun _ H' => Q .non H', rt := Q } (start N_Floor_d_init vs) H := by
  obtain ⟨p, dx, x, rfl, hp, h⟩ := h
  have walk : ∀ (a : Addr) (xs : List V), x = .ref a → SqL K H a xs → xs.length ≤ 100 → (∀ v ∈ xs, Kn K H v) → (NoF xs → ∀ H', Ex H H' → E (.ref (He.ga K "BadValue")) none H') →
      (∀ rs w, OkF rs w → xs = rowsV rs → ∀ t H', H t = none → (∀ c o, H c = some o → c ≠ p → H' c = some o) → H' t = some (.tup xs) → H' p = some (.ins (He.ga K "Floor") dx (gfl t)) → Q .non H') →
      t_Floor_d_init K E { nx := fun _ H' => Q .non H', rt := Q } (start N_Floor_d_init [.ref p, x]) H := by
    rintro a xs rfl hS l100 kn bad good
    unfold t_Floor_d_init
    repeat walk_at "mst"
    refine ⟨_, "list", rfl, .lst hS, ?_⟩
    repeat walk_at "mst"
    refine k_NT ?_
    rw [decide_eq_true rfl]
    repeat walk_at "mst"
    refine k_iteD (fun z1 => ?_) (fun z1 => ?_)
    rotate_left
    · repeat walk_at "mst"
      exact bad (fun rs w ok e => by have := (row_of ok e).1; omega) _ (Evl.Ex.refl _)
    repeat walk_at "mst"
    refine k_iteN (fun z6 => ?_) (fun z6 => ?_)
    · repeat walk_at "mst"
      exact bad (fun rs w ok e => by have := (row_of ok e).2.1; omega) _ (Evl.Ex.refl _)
    repeat walk_at "mst"
    refine ⟨a, rfl, ⟨_, hS⟩, forK_list (xs := xs) (fun i σ H' => Ex H H' ∧ (∀ (j : Nat) (v : V), j < i → xs[j]? = some v → Row0 (len0 xs) v) ∧ ∃ x2 : Option V, σ = [some (.ref p), some (.ref a), x2, none]) ⟨Evl.Ex.refl _, fun j v h => absurd h (Nat.not_lt_zero _), _, rfl⟩ ?_ ?_ ?_⟩
    · rintro i σ H' _ ⟨e, _⟩; exact Evl.ex_l e hS
    · rintro i v σ H' hv ⟨e, pre, x2, rfl⟩
      have hi := (List.getElem?_eq_some_iff.mp hv).1
      have mv := List.mem_of_getElem? hv
      have viol : ¬ Row0 (len0 xs) v → NoF xs := fun n rs w ok q => n ((row_of ok q).2.2 v mv)
      have hS2 := Evl.ex_l e hS
      repeat walk_at "mst"
      rcases (kn v mv).ex e with ⟨T, t, n⟩ | ⟨r, rfl, l1⟩
      · refine ⟨_, T, rfl, t, ?_⟩
        repeat walk_at "mst"
        refine k_NT ?_
        rw [decide_eq_false n]
        repeat walk_at "mst"
        refine bad (viol fun ⟨r, q, _⟩ => ?_) _ e
        subst q
        exact n (ty_str t)
      · refine ⟨_, "str", rfl, .str _, ?_⟩
        repeat walk_at "mst"
        refine k_NT ?_
        rw [decide_eq_true rfl]
        repeat walk_at "mst"
        refine k_lenX (by omega) ?_
        repeat walk_at "mst"
        refine k_iteD (fun y1 => ?_) (fun y1 => ?_)
        rotate_left
        · repeat walk_at "mst"
          refine bad (viol fun ⟨r', q, _, l, _⟩ => ?_) _ e
          injection q with q
          have := tx_inj.mp q
          subst this
          omega
        repeat walk_at "mst"
        refine k_iteN (fun y6 => ?_) (fun y6 => ?_)
        · repeat walk_at "mst"
          refine bad (viol fun ⟨r', q, _, _, l, _⟩ => ?_) _ e
          injection q with q
          have := tx_inj.mp q
          subst this
          omega
        repeat walk_at "mst"
        have h0 : ∃ r0, xs[0]? = some (.str (tx r0)) ∧ r0.length ≤ 6 ∧ len0 xs = r0.length := by
          have key : ∀ r0 : List Nat, xs[0]? = some (.str (tx r0)) → len0 xs = r0.length := by
            intro r0 q
            cases xs with
            | nil => cases q
            | cons y ys =>
              cases q
              exact tx_len _
          rcases Nat.eq_zero_or_pos i with z | z
          · subst z
            exact ⟨r, hv, by omega, key r hv⟩
          · obtain ⟨r0, q, _, _, l6, _⟩ := pre 0 xs[0] z (List.getElem?_eq_getElem _)
            have q2 : xs[0]? = some (.str (tx r0)) := by rw [← q]; exact List.getElem?_eq_getElem _
            exact ⟨r0, q2, l6, key r0 q2⟩
        obtain ⟨r0, q0, l0, e0⟩ := h0
        refine k_lenX (by omega) ?_
        repeat walk_at "mst"
        refine k_ixL hS2 (atI_nat (j := 0) q0) ?_
        repeat walk_at "mst"
        refine k_lenX (by omega) ?_
        repeat walk_at "mst"
        refine k_iteD (fun ne => ?_) (fun ne => ?_)
        · repeat walk_at "mst"
          refine bad (viol fun ⟨r', q, l, _⟩ => ?_) _ e
          injection q with q
          have := tx_inj.mp q
          subst this
          omega
        repeat walk_at "mst"
        refine k_istr ?_
        repeat walk_at "mst"
        refine ⟨_, rfl, lcR_str (fun c => some (V.bl (okd c))) (by omega) (fun i c hc => ?_) fun D H2 nD e2 hD => ?_⟩
        · refine turn_mapE fun H'' e R rr => ?_
          repeat walk_at "mst"
          refine ⟨fits (Nat.le_of_ble_eq_true rfl), fun u nu => ?_⟩
          exact k_inDots (k_st upd_same) (rr _ (Evl.Ex.new nu))
        · have em : r.filterMap (fun c => some (V.bl (okd c))) = (r.map okd).map V.bl := by
            rw [List.map_map]
            exact List.filterMap_eq_map (f := fun c => V.bl (okd c)) ▸ rfl
          rw [em] at hD
          repeat walk_at "mst"
          refine k_allX (k_sq hD) ?_
          have ea : (r.map okd).all id = r.all okd := by rw [List.all_map]; rfl
          rw [ea]
          cases hb : r.all okd
          · repeat walk_at "mst"
            refine bad (viol fun ⟨r', q, _, _, _, al⟩ => ?_) _ (e.trans e2)
            injection q with q
            have := tx_inj.mp q
            subst this
            rw [hb] at al
            cases al
          · repeat walk_at "mst"
            refine ⟨e.trans e2, fun j v hj hv2 => ?_, _, rfl⟩
            rcases Nat.lt_or_ge j i with l | l
            · exact pre j v l hv2
            · have ej : j = i := by omega
              subst ej
              rw [hv] at hv2
              cases hv2
              exact ⟨r, rfl, by omega, by omega, by omega, hb⟩
    · rintro σ H' ⟨e, pre, x2, rfl⟩
      obtain ⟨rs, w, ok, es⟩ := rows_of (xs := xs) (by omega) (by omega) fun v m => by
        obtain ⟨j, hj⟩ := List.getElem?_of_mem m
        exact pre j v (List.getElem?_eq_some_iff.mp hj).1 hj
      have hp2 := e _ _ hp
      have hS2 := Evl.ex_l e hS
      repeat walk_at "mst"
      intro t ht
      have npt : p ≠ t := ne_of_none hp2 ht
      repeat walk_at "mst"
      refine ⟨p, _, dx, [], rfl, (upd_ne npt).trans hp2, F.cl, F.na, by show 0 < 1000; decide, ?_⟩
      refine good rs w ok es t _ (Evl.fresh_back e ht) (fun c o z y => ?_) ?_ upd_same
      · rw [upd_ne y, upd_ne (ne_of_none (e _ _ z) ht)]; exact e _ _ z
      · rw [upd_ne npt.symm, upd_same]
  rcases h with ⟨a, rs, w, rfl, hS, ok, q⟩ | ⟨T, t, n, r⟩ | ⟨a, xs, rfl, hS, l, kn, no, r⟩
  · refine walk a _ rfl hS (by rw [rowsV_len]; have := ok.n6; omega) (fun v m => ?_) (fun h => absurd rfl (h rs w ok)) (fun _ _ _ _ => q)
    obtain ⟨r, mr, rfl⟩ := List.mem_map.mp m
    have o := (ok.ok r mr).1
    have := ok.w6
    exact Or.inr ⟨r, rfl, by omega⟩
  · unfold t_Floor_d_init
    repeat walk_at "mst"
    refine ⟨_, T, rfl, t, ?_⟩
    repeat walk_at "mst"
    refine k_NT ?_
    rw [decide_eq_false n]
    repeat walk_at "mst"
    exact r
  · exact walk a xs rfl hS l kn (fun _ => r) (fun rs w ok e => absurd e (no rs w ok))
/-- a floor is made -/
theorem mk_fl {K : PySem.W.Frag} {H : Hp} {Q : Addr → Hp → Prop} {E : XK} {a : Addr} {rs : Fl} {w : Nat} (hS : SqL K H a (rowsV rs)) (ok : OkF rs w) (k : ∀ x H', H x = none → Ex H H' → FlAt K H' x rs → Q x H') :
    ∀ x dx, H x = none → H dx = none → dx ≠ x → sp_Floor_d_init K (.ref x :: ([.ref a] ++ [])) (upd (upd H dx (.own x)) x (.ins (He.ga K "Floor") dx [])) (fun v H2 => v = .non ∧ Q x H2) E := by
  intro x dx hx hd hne
  have e : Ex H (upd (upd H dx (.own x)) x (.ins (He.ga K "Floor") dx [])) := (Evl.Ex.new hd).trans (Evl.Ex.new (by rw [upd_ne hne.symm]; exact hx))
  exact ⟨x, dx, _, rfl, upd_same, Or.inl ⟨a, rs, w, rfl, Evl.ex_l e hS, ok, fun t H' ht kp h1 h2 => ⟨rfl, k x H' hx (fun c o z => kp c o (e _ _ z) (ne_of_none z hx)) ⟨dx, t, h2, h1⟩⟩⟩⟩
def cellsV (H : Hp) (y : V) (c : Nat × Nat) : Prop := ∃ a, y = .ref a ∧ H a = some (.tup [.int (c.1 : Int), .int (c.2 : Int)])
def cellL (n w : Nat) : List (Nat × Nat) := (List.range n).flatMap fun i => (List.range w).map fun j => (i, j)
theorem cellL_len (n w : Nat) : (cellL n w).length = n * w := by
  unfold cellL
  induction n with
  | zero => simp
  | succ n ih => rw [List.range_succ, List.flatMap_append, List.length_append, ih, List.flatMap_cons, List.flatMap_nil, List.append_nil, List.length_map, List.length_range, Nat.add_mul, Nat.one_mul]
def sp_Floor_p_cells (K : PySem.W.Frag) : Sp := fun vs H Q _ => ∃ (b : Addr) (rs : Fl) (w : Nat), vs = [.ref b] ∧ FlAt K H b rs ∧ OkF rs w ∧ ∀ D ys H', H D = none → Ex H H' → H' D = some (.lst ys) → AllAt cellsV H' ys (cellL rs.length w) → Q (.ref D) H'
local macro_rules | `(tactic| walk_at "mlk") => `(tactic| exact gfl_get _)
theorem cellsV.keep {H H' : Hp} {y : V} {c : Nat × Nat} (h : cellsV H y c) (k : ∀ c o, H c = some o → (∀ ys, o ≠ .lst ys) → H' c = some o) : cellsV H' y c := let ⟨a, r, z⟩ := h; ⟨a, r, k _ _ z (fun ys z => by cases z)⟩
theorem AllAt.snoc2 {α : Type} {P : Hp → V → α → Prop} {H : Hp} {xs : List V} {cs : List α} {y : V} {c : α} (h : AllAt P H xs cs) (p : P H y c) : AllAt P H (xs ++ [y]) (cs ++ [c]) := by
  refine ⟨by rw [List.length_append, List.length_append, h.1]; rfl, fun i d hd => ?_⟩
  rcases get_snoc2 hd with hd | ⟨e, r⟩
  · obtain ⟨z, hz, q⟩ := h.2 i d hd
    exact ⟨z, by rw [List.getElem?_append_left (List.getElem?_eq_some_iff.mp hz).1]; exact hz, q⟩
  · subst r
    exact ⟨y, by rw [e, ← h.1, List.getElem?_append_right (Nat.le_refl _), Nat.sub_self]; rfl, p⟩
abbrev N_Floor_p_cells : List Str := ["self", "row", "column"]
def t_Floor_p_cells (K : PySem.W.Frag) (E : XK) : TS := (tRet (tLc2 (iRng1 (tCons (tCB (rLenQ K) (tCons (tFld K (tVar 0) "_rows") tNil)) tNil)) (gName 1) tYes (iRng1 (tCons (tCB rLenS (tCons (tOp (rIxT K) (tFld K (tVar 0) "_rows") (tC (.int 0))) tNil)) tNil)) (gName 2) tYes (tTup (tCons (tVar 1) (tCons (tVar 2) tNil))) [1, 2] [2]))
theorem len_Floor_p_cells {K : PySem.W.Frag} {vs : List V} {H : Hp} {Q : VK} {E : XK} (h : sp_Floor_p_cells K vs H Q E) : vs.length = 1 := by
  obtain ⟨_, _, _, rfl, _⟩ := h; rfl
theorem pure_Floor_p_cells {K : PySem.W.Frag} (F : FFloor K) (vs : List V) (H : Hp) (Q : VK) (E : XK) (h : sp_Floor_p_cells K vs H Q E) : t_Floor_p_cells K E { nx := fun _ H' => Q .non H', rt := Q } (start N_Floor_p_cells vs) H := by
  obtain ⟨b, rs, w, rfl, ⟨dx, t, hb, ht⟩, ok, q⟩ := h
  unfold t_Floor_p_cells
  obtain ⟨cl, na⟩ := F
  obtain ⟨r0, h0, o0⟩ := ok.at (i := 0) ok.n1
  have w6 := ok.w6
  have l0 := o0.1
  have hl := rowsV_len rs
  repeat walk_at "mst"
  unfold tLc2
  repeat walk_at "mst"
  have n6 := ok.n6
  refine ⟨_, rfl, by omega, by omega, ?_⟩
  intro D hD
  refine ⟨fun i m H' => i ≤ rs.length ∧ m = rs.length - i ∧ ∃ ys, Ex H H' ∧ H' D = some (.lst ys) ∧ AllAt cellsV H' ys (cellL i w), ⟨rs.length, Nat.zero_le _, by omega, [], Evl.Ex.new hD, upd_same, ⟨rfl, fun i c h => by cases h⟩⟩, ?_⟩
  rintro i m H1 ⟨hi, rfl, ys, e1, hd, al⟩
  rcases Nat.lt_or_ge i rs.length with h | h
  · refine Or.inr ⟨by show i < _; omega, fun H' => i + 1 ≤ rs.length ∧ ∃ ys, Ex H H' ∧ H' D = some (.lst ys) ∧ AllAt cellsV H' ys (cellL (i + 1) w), fun H' p' => ⟨rs.length - (i + 1), by omega, by omega, rfl, p'.2⟩, ?_⟩
    rintro x H' ⟨rfl, rfl⟩
    have ht1 := e1 _ _ ht
    have hb1 := e1 _ _ hb
    have ei : (0 : Int) + (i : Int) = (i : Int) := Int.zero_add _
    rw [ei]
    have st : ∀ (H2 : Hp) (j : Nat) (ys : List V), Ex H H2 → H2 D = some (.lst ys) → AllAt cellsV H2 ys (cellL i w ++ (List.range j).map fun j => (i, j)) → j ≤ w → ys.length ≤ 36 := by
      intro H2 j ys _ _ al hj
      have := al.1
      rw [List.length_append, cellL_len, List.length_map, List.length_range] at this
      have : i * w ≤ 5 * w := Nat.mul_le_mul_right _ (by omega)
      omega
    repeat walk_at "mst"
    refine ⟨rfl, ?_⟩
    unfold tYes
    repeat walk_at "mst"
    refine k_ixT (k_st ht1) (atI_nat (j := 0) (rowsV_at h0)) ?_
    repeat walk_at "mst"
    refine k_lenX (by omega) ?_
    repeat walk_at "mst"
    refine ⟨_, rfl, by omega, by omega, ?_⟩
    refine ⟨fun j k H' => j ≤ w ∧ k = w - j ∧ ∃ ys, Ex H H' ∧ H' D = some (.lst ys) ∧ AllAt cellsV H' ys (cellL i w ++ (List.range j).map fun j => (i, j)), ⟨w, Nat.zero_le _, by omega, ys, e1, hd, by rw [List.range_zero, List.map_nil, List.append_nil]; exact al⟩, ?_⟩
    rintro j k H2 ⟨hj, rfl, zs, e2, hz, al2⟩
    rcases Nat.lt_or_ge j w with hj2 | hj2
    · refine Or.inr ⟨by show j < _; omega, fun H' => j + 1 ≤ w ∧ ∃ ys, Ex H H' ∧ H' D = some (.lst ys) ∧ AllAt cellsV H' ys (cellL i w ++ (List.range (j + 1)).map fun j => (i, j)), fun H' p' => ⟨w - (j + 1), by omega, by omega, rfl, p'.2⟩, ?_⟩
      rintro x H' ⟨rfl, rfl⟩
      have ej : (0 : Int) + (j : Int) = (j : Int) := Int.zero_add _
      rw [ej]
      repeat walk_at "mst"
      refine ⟨rfl, ?_⟩
      repeat walk_at "mst"
      refine ⟨fits (Nat.le_of_ble_eq_true rfl), fun u nu => ?_⟩
      have nuD : D ≠ u := ne_of_none hz nu
      refine ⟨zs, (upd_ne nuD).trans hz, fits' (Nat.le_trans (st _ _ _ e2 hz al2 hj) (by decide)), hj2, zs ++ [.ref u], ?_, upd_same, ?_⟩
      · exact Evl.Ex.mut (e2.trans (Evl.Ex.new nu)) hD
      · rw [List.range_succ, List.map_append, ← List.append_assoc]
        refine AllAt.snoc2 (al2.imp fun y c q => q.keep fun c o z n => ?_) ⟨u, rfl, (upd_ne nuD.symm).trans upd_same⟩
        have nc : c ≠ D := fun h => by subst h; rw [hz] at z; cases z; exact n _ rfl
        rw [upd_ne nc]
        exact Evl.Ex.new nu _ _ z
    · have ej : j = w := by omega
      subst ej
      refine Or.inl ⟨by show _ ≤ _; omega, h, zs, e2, hz, ?_⟩
      unfold cellL at al2 ⊢
      rw [List.range_succ, List.flatMap_append, List.flatMap_cons, List.flatMap_nil, List.append_nil]
      exact al2
  · have ei : i = rs.length := by omega
    subst ei
    exact Or.inl ⟨by show _ ≤ _; omega, q D ys H1 hD e1 hd al⟩
theorem use_cells {K : PySem.W.Frag} {H : Hp} {Q : VK} {E : XK} {b : Addr} {rs : Fl} {w : Nat} (h : FlAt K H b rs) (ok : OkF rs w) (q : ∀ D ys H', H D = none → Ex H H' → H' D = some (.lst ys) → AllAt cellsV H' ys (cellL rs.length w) → Q (.ref D) H') : sp_Floor_p_cells K (.ref b :: ([] ++ [])) H Q E := ⟨b, rs, w, rfl, h, ok, q⟩
def sp_law_clipped (K : PySem.W.Frag) : Sp := fun vs H Q _ => ∃ (ca : Addr) (xs : List V) (S : List C2), vs = [.ref ca] ∧ H ca = some (.lst xs) ∧ AllAt cellsV H xs S ∧ S ≠ [] ∧ (∀ c ∈ S, c.1 < 6 ∧ c.2 < 6) ∧ S.length ≤ 36 ∧ ∀ v H', Ex H H' → DuL H' v (clip S) → Q v H'
local macro_rules | `(tactic| walk_at "new") => `(tactic| ((first | refine ⟨fits (Nat.le_of_ble_eq_true rfl), ?_⟩ | skip); intro p np; generalize hq : upd _ p _ = H1; have e1 := nx np hq; have s1 := nS hq; clear hq))
def castC (c : C2) : Ck := ((c.1 : Int), (c.2 : Int))
theorem castC_inj {c d : C2} (h : castC c = castC d) : c = d := by
  unfold castC at h
  injection h with h1 h2
  exact Prod.ext (by omega) (by omega)
theorem cellsV.ck {H : Hp} {y : V} {c : C2} (h : cellsV H y c) : CkAt H y (castC c) := h
theorem cells_cks {H : Hp} {xs : List V} {S : List C2} (h : AllAt cellsV H xs S) : CsAt H xs (S.map castC) := by
  refine ⟨by rw [List.length_map]; exact h.1, fun i d hd => ?_⟩
  rw [List.getElem?_map] at hd
  cases hc : S[i]? with
  | none => rw [hc] at hd; cases hd
  | some c =>
    rw [hc] at hd
    cases hd
    obtain ⟨y, hy, q⟩ := h.2 i c hc
    exact ⟨y, hy, q.ck⟩
theorem any_cell (S : List C2) (c : C2) : (((S.map castC).map ckD).any fun z => PyData.eqv z (ckD (castC c))) = decide (c ∈ S) := by
  rw [Bool.eq_iff_iff, List.any_eq_true, decide_eq_true_iff]
  constructor
  · rintro ⟨z, m, e⟩
    obtain ⟨k, mk, rfl⟩ := List.mem_map.mp m
    obtain ⟨d, md, rfl⟩ := List.mem_map.mp mk
    rw [eqv_ck] at e
    rw [← castC_inj (of_decide_eq_true e)]
    exact md
  · exact fun m => ⟨_, List.mem_map.mpr ⟨_, List.mem_map.mpr ⟨c, m, rfl⟩, rfl⟩, by rw [eqv_ck]; exact decide_eq_true rfl⟩
theorem k_inCell {K : PySem.W.Frag} {H : Hp} {Q : VK} {y : V} {a : Addr} {xs : List V} {S : List C2} {c : C2} (h1 : cellsV H y c) (h2 : SqL K H a xs) (R : AllAt cellsV H xs S) (q : Q (.bl (decide (c ∈ S))) H) : rInD K y (.ref a) H Q :=
  ⟨_, _, h1.ck.dp, .lst h2 (cells_cks R).dp, shaped_ck _, shaped_cks _, by rw [any_cell]; exact q⟩
theorem k_notInCell {K : PySem.W.Frag} {H : Hp} {Q : VK} {y : V} {a : Addr} {xs : List V} {S : List C2} {c : C2} (h1 : cellsV H y c) (h2 : SqL K H a xs) (R : AllAt cellsV H xs S) (q : Q (.bl (!decide (c ∈ S))) H) : rNotInD K y (.ref a) H Q :=
  ⟨_, _, h1.ck.dp, .lst h2 (cells_cks R).dp, shaped_ck _, shaped_cks _, by rw [any_cell]; exact q⟩
/-- an item of a cell -/
def itF (H : Hp) (v : V) : Option V := match v with
  | .ref a => match H a with
    | some (.tup (x :: _)) => some x
    | _ => none
  | _ => none
def itS (H : Hp) (v : V) : Option V := match v with
  | .ref a => match H a with
    | some (.tup (_ :: x :: _)) => some x
    | _ => none
  | _ => none
theorem itF_list {H : Hp} : ∀ {xs : List V} {S : List C2}, AllAt cellsV H xs S → xs.filterMap (itF H) = (castL (rwN S)).map V.int
  | [], [], _ => rfl
  | x :: xs, c :: S, h => by
    obtain ⟨⟨a, rfl, ha⟩, h2⟩ := h.tail
    rw [List.filterMap_cons]
    have e : itF H (.ref a) = some (.int (c.1 : Int)) := by unfold itF; dsimp only; rw [ha]
    rw [e, itF_list h2]
    rfl
  | [], _ :: _, h => absurd h.1 (by simp)
  | _ :: _, [], h => absurd h.1 (by simp)
theorem itS_list {H : Hp} : ∀ {xs : List V} {S : List C2}, AllAt cellsV H xs S → xs.filterMap (itS H) = (castL (clN S)).map V.int
  | [], [], _ => rfl
  | x :: xs, c :: S, h => by
    obtain ⟨⟨a, rfl, ha⟩, h2⟩ := h.tail
    rw [List.filterMap_cons]
    have e : itS H (.ref a) = some (.int (c.2 : Int)) := by unfold itS; dsimp only; rw [ha]
    rw [e, itS_list h2]
    rfl
  | [], _ :: _, h => absurd h.1 (by simp)
  | _ :: _, [], h => absurd h.1 (by simp)
abbrev N_law_clipped : List Str := ["cells", "lines", "cell", "columns", "rows", "line", "row", "column"]
def t_law_clipped (K : PySem.W.Frag) (E : XK) : TS := (tSeq (tAsg (tLc (iList K (tVar 0)) (gName 2) tYes (tOp (rIxT K) (tVar 2) (tC (.int 0))) [2]) (gName 1)) (tSeq (tAsg (tLc (iList K (tVar 0)) (gName 2) tYes (tOp (rIxT K) (tVar 2) (tC (.int 1))) [2]) (gName 3)) (tSeq (tAsg (tLst tNil) (gName 4)) (tSeq (tFor (iRng2 (tCons (tCB (rMin K) (tCons (tVar 1) tNil)) (tCons (tOp rAddI (tCB (rMax K) (tCons (tVar 1) tNil)) (tC (.int 1))) tNil))) (gName 5) (tSeq (tAsg (tC (.str "")) (gName 6)) (tSeq (tFor (iRng2 (tCons (tCB (rMin K) (tCons (tVar 3) tNil)) (tCons (tOp rAddI (tCB (rMax K) (tCons (tVar 3) tNil)) (tC (.int 1))) tNil))) (gName 7) (tAsg (tOp rCatS (tVar 6) (tIf (tTest (tOp (rInD K) (tTup (tCons (tVar 5) (tCons (tVar 7) tNil))) (tVar 0))) (tC (.str ".")) (tC (.str "#")))) (gName 6))) (tDrop (tBM K "list" rAppend (tVar 4) (tCons (tVar 6) tNil)))))) (tRet (tTup (tCons (tC (.str "floor")) (tCons (tCB (rTupL K) (tCons (tVar 4) tNil)) tNil))))))))
theorem len_law_clipped {K : PySem.W.Frag} {vs : List V} {H : Hp} {Q : VK} {E : XK} (h : sp_law_clipped K vs H Q E) : vs.length = 1 := by
  obtain ⟨_, _, _, rfl, _⟩ := h; rfl
theorem pure_law_clipped {K : PySem.W.Frag} (vs : List V) (H : Hp) (Q : VK) (E : XK) (h : sp_law_clipped K vs H Q E) : t_law_clipped K E { nx := fun _ H' => Q .non H', rt := Q } (start N_law_clipped vs) H := by
  obtain ⟨ca, xs, S, rfl, hca, R, ne, six, few, q⟩ := h
  have bx := box ne
  have xl := R.1
  have at_ : ∀ x ∈ xs, ∃ c, cellsV H x c := fun x m => by
    obtain ⟨i, hi⟩ := List.getElem?_of_mem m
    have hl := (List.getElem?_eq_some_iff.mp hi).1
    have hc := List.getElem?_eq_getElem (l := S) (i := i) (by omega)
    obtain ⟨y, hy, at_⟩ := R.2 i _ hc
    rw [hi] at hy
    cases hy
    exact ⟨_, at_⟩
  unfold t_law_clipped
  repeat walk_at "mst"
  refine ⟨ca, rfl, ⟨_, k_sq hca⟩, lcR_list (itF H) (k_sq hca) (fits' (by omega)) (fun x mx => ?_) fun L H1 nL e1 hL => ?_⟩
  · intro H'' e'' RR rr
    obtain ⟨c, a, rfl, ha⟩ := at_ x mx
    have e : itF H (.ref a) = some (.int (c.1 : Int)) := by unfold itF; dsimp only; rw [ha]
    rw [e] at rr
    have ha'' := e'' _ _ ha
    repeat walk_at "mst"
    refine ⟨rfl, ?_⟩
    unfold tYes
    repeat walk_at "mst"
    exact rr _ (Evl.Ex.refl _)
  rw [itF_list R] at hL
  have hca1 := e1 _ _ hca
  repeat walk_at "mst"
  refine ⟨ca, rfl, ⟨_, k_sq hca1⟩, lcR_list (itS H) (k_sq hca1) (fits' (by omega)) (fun x mx => ?_) fun M H2 nM e2 hM => ?_⟩
  · intro H'' e'' RR rr
    obtain ⟨c, a, rfl, ha⟩ := at_ x mx
    have e : itS H (.ref a) = some (.int (c.2 : Int)) := by unfold itS; dsimp only; rw [ha]
    rw [e] at rr
    have ha'' := e'' _ _ (e1 _ _ ha)
    repeat walk_at "mst"
    refine ⟨rfl, ?_⟩
    unfold tYes
    repeat walk_at "mst"
    exact rr _ (Evl.Ex.refl _)
  rw [itS_list R] at hM
  repeat walk_at "mst"
  walk_at "new"; rename_i fp nfp H3 e3 s3
  have hL3 := e3 _ _ (e2 _ _ hL)
  have hM3 := e3 _ _ hM
  have e03 := (e1.trans e2).trans e3
  have hca3 := e03 _ _ hca
  have nfp0 : H fp = none := Evl.fresh_back (e1.trans e2) nfp
  have nLf : L ≠ fp := ne_of_none (e2 _ _ hL) nfp
  have nMf : M ≠ fp := ne_of_none hM nfp
  have ncf : ca ≠ fp := ne_of_none (e2 _ _ hca1) nfp
  obtain ⟨cr, mcr, ecr⟩ := bx.rh
  obtain ⟨cc, mcc, ecc⟩ := bx.ch
  have x1 := six cr mcr
  have x2 := six cc mcc
  have y1 := bx.r1 cr mcr
  have y2 := bx.c1 cc mcc
  have hh : ((hiN (rwN S) : Int) + 1 - (loN (rwN S) : Int)).toNat = hgt S := by unfold hgt; omega
  have ww : ((hiN (clN S) : Int) + 1 - (loN (clN S) : Int)).toNat = wdt S := by unfold wdt; omega
  have h6 : hgt S ≤ 6 := by unfold hgt; omega
  have w6 : wdt S ≤ 6 := by unfold wdt; omega
  have pl : 0 < S.length := List.length_pos_iff.mpr ne
  have l1 : 0 < (castL (rwN S)).length := by rw [castL_len]; unfold rwN; rw [List.length_map]; exact pl
  have l2 : 0 < (castL (clN S)).length := by rw [castL_len]; unfold clN; rw [List.length_map]; exact pl
  have rmin : ∀ {P : Addr} {l : List Nat} {H : Hp} {Q : VK}, H P = some (.lst ((castL l).map V.int)) → 0 < (castL l).length → Q (.int (loN l : Int)) H → rMin K [.ref P] H Q := fun h l q => ⟨_, _, rfl, k_sq h, l, fun m hm mm => by rw [cast_lo hm mm]; exact q⟩
  have rmax : ∀ {P : Addr} {l : List Nat} {H : Hp} {Q : VK}, H P = some (.lst ((castL l).map V.int)) → 0 < (castL l).length → Q (.int (hiN l : Int)) H → rMax K [.ref P] H Q := fun h l q => ⟨_, _, rfl, k_sq h, l, fun m hm mm => by rw [cast_hi hm mm]; exact q⟩
  repeat walk_at "mst"
  refine rmin hL3 l1 ?_
  repeat walk_at "mst"
  first | refine rmax hL3 l1 ?_ | skip
  repeat walk_at "mst"
  refine ⟨_, _, rfl, ⟨by omega, by omega, by omega, by omega⟩, ?_⟩
  rw [hh]
  refine for_range (lo := (loN (rwN S) : Int)) (n := hgt S) (fun i σ H' => ∃ (x2 x5 x6 x7 : Option V), (∀ c o, H3 c = some o → c ≠ fp → H' c = some o) ∧ H' fp = some (.lst ((List.range i).map fun i => V.str (tx (rowC S i)))) ∧ σ = [some (.ref ca), some (.ref L), x2, some (.ref M), some (.ref fp), x5, x6, x7]) ⟨_, _, _, _, fun c o z _ => z, s3, rfl⟩ ?_ ?_
  · rintro i σ H4 hi ⟨z2, z5, z6, z7, kp, hf4, rfl⟩
    have hM4 := kp _ _ hM3 nMf
    repeat walk_at "mst"
    refine rmin hM4 l2 ?_
    repeat walk_at "mst"
    first | refine rmax hM4 l2 ?_ | skip
    repeat walk_at "mst"
    refine ⟨_, _, rfl, ⟨by omega, by omega, by omega, by omega⟩, ?_⟩
    rw [ww]
    refine for_range (lo := (loN (clN S) : Int)) (n := wdt S) (fun j σ H' => ∃ (z7 : Option V), Ex H4 H' ∧ σ = [some (.ref ca), some (.ref L), z2, some (.ref M), some (.ref fp), some (.int ((loN (rwN S) : Int) + (i : Int))), some (.str (tx ((List.range j).map fun j => if (loN (rwN S) + i, loN (clN S) + j) ∈ S then 46 else 35))), z7]) ⟨_, Evl.Ex.refl _, rfl⟩ ?_ ?_
    · rintro j σ H5 hj ⟨z7, e5, rfl⟩
      have hca5 := e5 _ _ (kp _ _ hca3 ncf)
      have kpH : Ex H H5 := fun c o z => e5 _ _ (kp c o (e03 _ _ z) (ne_of_none z nfp0))
      have R5 : AllAt cellsV H5 xs S := R.imp fun y c q => q.keep fun a o z _ => kpH a o z
      repeat walk_at "mst"
      walk_at "new"; rename_i tp ntp H6 e6 s6
      rw [show (loN (rwN S) : Int) + (i : Int) = ((loN (rwN S) + i : Nat) : Int) by omega, show (loN (clN S) : Int) + (j : Int) = ((loN (clN S) + j : Nat) : Int) by omega] at s6
      have R6 : AllAt cellsV H6 xs S := R5.imp fun y c q => q.keep fun a o z _ => e6 a o z
      repeat walk_at "mst"
      refine k_inCell (c := (loN (rwN S) + i, loN (clN S) + j)) ⟨tp, rfl, s6⟩ (k_sq (e6 _ _ hca5)) R6 ?_
      have cat : ∀ {Q : VK} (d : Nat), Q (.str (tx (((List.range j).map fun j => if (loN (rwN S) + i, loN (clN S) + j) ∈ S then 46 else 35) ++ [d]))) H6 → rCatS (.str (tx ((List.range j).map fun j => if (loN (rwN S) + i, loN (clN S) + j) ∈ S then 46 else 35))) (.str (tx [d])) H6 Q := fun d q => k_catX (by rw [List.length_map, List.length_range]; show _ + 1 ≤ _; omega) q
      have rs : (List.range (j + 1)).map (fun j => if (loN (rwN S) + i, loN (clN S) + j) ∈ S then 46 else 35) = ((List.range j).map fun j => if (loN (rwN S) + i, loN (clN S) + j) ∈ S then 46 else 35) ++ [if (loN (rwN S) + i, loN (clN S) + j) ∈ S then 46 else 35] := by rw [List.range_succ, List.map_append]; rfl
      rw [rs]
      refine ⟨_, rfl, ?_⟩
      by_cases m : (loN (rwN S) + i, loN (clN S) + j) ∈ S
      · rw [if_pos (decide_eq_true m)]
        repeat walk_at "mst"
        refine cat 46 ?_
        rw [if_pos m]
        repeat walk_at "mst"
        exact ⟨_, e5.trans e6, rfl⟩
      · rw [if_neg (by simpa using m)]
        repeat walk_at "mst"
        refine cat 35 ?_
        rw [if_neg m]
        repeat walk_at "mst"
        exact ⟨_, e5.trans e6, rfl⟩
    · rintro σ H5 ⟨z7, e5, rfl⟩
      have hf5 := e5 _ _ hf4
      repeat walk_at "mst"
      · rw [List.length_map, List.length_range]; exact fits' (by omega)
      refine ⟨_, _, _, _, fun c o z n => (upd_ne n).trans (e5 _ _ (kp c o z n)), ?_, rfl⟩
      rw [upd_same, List.range_succ, List.map_append]
      rfl
  · rintro σ H4 ⟨z2, z5, z6, z7, kp, hf4, rfl⟩
    rw [← clip_rows_V] at hf4
    have e04 : Ex H H4 := fun c o z => kp c o (e03 _ _ z) (ne_of_none z nfp0)
    repeat walk_at "mst"
    walk_at "new"; rename_i rt nrt H5 e5 s5
    repeat walk_at "mst"
    walk_at "new"; rename_i vt nvt H6 e6 s6
    repeat walk_at "mst"
    exact q _ H6 ((e04.trans e5).trans e6) ⟨vt, rt, rfl, s6, e6 _ _ s5⟩
theorem use_clipped {K : PySem.W.Frag} {H : Hp} {Q : VK} {E : XK} {ca : Addr} {xs : List V} {S : List C2} (hca : H ca = some (.lst xs)) (R : AllAt cellsV H xs S) (ne : S ≠ []) (six : ∀ c ∈ S, c.1 < 6 ∧ c.2 < 6) (few : S.length ≤ 36) (q : ∀ v H', Ex H H' → DuL H' v (clip S) → Q v H') : sp_law_clipped K ([.ref ca] ++ []) H Q E := ⟨ca, xs, S, rfl, hca, R, ne, six, few, q⟩
def sp_law_floor_parts (K : PySem.W.Frag) : Sp := fun vs H Q _ => ∃ (t : Addr) (rs : Fl) (w : Nat), vs = [.ref t] ∧ H t = some (.tup (rowsV rs)) ∧ OkF rs w ∧ ∀ p ys H', H p = none → Ex H H' → H' p = some (.lst ys) → DsL H' ys (partsF rs w) → Q (.ref p) H'
local macro_rules | `(tactic| walk_at "new") => `(tactic| ((first | refine ⟨fits (Nat.le_of_ble_eq_true rfl), ?_⟩ | skip); intro p np; generalize hq : upd _ p _ = H1; have e1 := nx np hq; have s1 := nS hq; clear hq))
theorem cellsV.ex {H H' : Hp} {y : V} {c : C2} (h : cellsV H y c) (e : Ex H H') : cellsV H' y c := h.keep fun a o z _ => e a o z
theorem cellsV.one {H : Hp} {v : V} {c d : C2} (h1 : cellsV H v c) (h2 : cellsV H v d) : c = d := by
  obtain ⟨a, rfl, h1⟩ := h1
  obtain ⟨b, e, h2⟩ := h2
  injection e with e
  subst e
  rw [h1] at h2
  injection h2 with h2
  injection h2 with h2
  simp only [List.cons.injEq, V.int.injEq, and_true] at h2
  exact Prod.ext (by omega) (by omega)
open Classical in
noncomputable def keepP (H : Hp) (f : C2 → Bool) (v : V) : Option V := if ∃ c, cellsV H v c ∧ f c = true then some v else none
theorem keepP_at {H : Hp} {f : C2 → Bool} {v : V} {c : C2} (h : cellsV H v c) : keepP H f v = if f c = true then some v else none := by
  unfold keepP
  by_cases z : f c = true
  · rw [if_pos z, if_pos ⟨c, h, z⟩]
  · rw [if_neg z, if_neg]
    rintro ⟨c', h', z'⟩
    rw [cellsV.one h h'] at z
    exact z z'
theorem keepP_list {H : Hp} {f : C2 → Bool} : ∀ {xs : List V} {S : List C2}, AllAt cellsV H xs S → AllAt cellsV H (xs.filterMap (keepP H f)) (S.filter f)
  | [], [], _ => .nil
  | x :: xs, c :: S, h => by
    obtain ⟨h1, h2⟩ := h.tail
    have ih := keepP_list (f := f) h2
    rw [List.filterMap_cons, keepP_at h1, List.filter_cons]
    by_cases z : f c = true
    · rw [if_pos z, if_pos z]
      exact AllAt.app (xs := [x]) (cs := [c]) (.one h1) ih
    · rw [if_neg z, if_neg z]
      exact ih
  | [], _ :: _, h => absurd h.1 (by simp)
  | _ :: _, [], h => absurd h.1 (by simp)
def c66 (k : Nat) : C2 := (k / 6, k % 6)
theorem cls66 : (List.range 36).map c66 = clsL 6 6 := by decide
def adjB (x d : C2) : Bool := decide ((if (d.1 : Int) - x.1 < 0 then -((d.1 : Int) - x.1) else (d.1 : Int) - x.1) + (if (d.2 : Int) - x.2 < 0 then -((d.2 : Int) - x.2) else (d.2 : Int) - x.2) = 1)
theorem adjB_iff (x d : C2) : adjB x d = true ↔ Adj d x := by
  unfold adjB Adj
  rw [decide_eq_true_iff]
  split <;> split <;> omega
theorem fre_text {rs : Fl} {w : Nat} (ok : OkF rs w) {i j : Nat} {r : List Nat} (hr : rs[i]? = some r) : decide ((r.drop j).take 1 = [46]) = fre rs i j := by
  unfold fre cell
  rw [hr]
  show _ = decide (r[j]? = some 46)
  refine decide_eq_decide.mpr ?_
  rcases Nat.lt_or_ge j r.length with h | h
  · rw [List.getElem?_eq_getElem h, List.drop_eq_getElem_cons h]
    show [r[j]] = [46] ↔ _
    exact ⟨fun z => by injection z with z; rw [z], fun z => by injection z with z; rw [z]⟩
  · rw [List.getElem?_eq_none_iff.mpr h, List.drop_of_length_le h]
    exact ⟨fun z => (by cases z), fun z => (by cases z)⟩
theorem bigS_snoc5 (L : List (List C2)) (S : List C2) : bigS (L ++ [S]) = bigS L ++ (if 1 < S.length then [clip S] else []) := by
  unfold bigS
  rw [List.filter_append, List.map_append, List.filter_cons]
  by_cases h : 1 < S.length
  · rw [if_pos h, if_pos (decide_eq_true h)]; rfl
  · rw [if_neg h, if_neg (by simpa using h)]; rfl
theorem bigS_len5 (L : List (List C2)) : (bigS L).length ≤ L.length := by
  unfold bigS
  rw [List.length_map]
  exact List.length_filter_le _ _
theorem pf_len5 (rs : Fl) (w : Nat) (l : List C2) : (pfTo rs w l).1.length ≤ l.length := by
  have key : ∀ (l : List C2) (acc : List (List C2) × List C2), (l.foldl (pfStep rs w) acc).1.length ≤ acc.1.length + l.length := by
    intro l
    induction l with
    | nil => intro acc; exact Nat.le_refl _
    | cons c l ih =>
      intro acc
      rw [List.foldl_cons, List.length_cons]
      have h := ih (pfStep rs w acc c)
      have h2 : (pfStep rs w acc c).1.length ≤ acc.1.length + 1 := by
        unfold pfStep
        split
        · rw [List.length_append, List.length_singleton]; exact Nat.le_refl _
        · omega
      omega
  have h : (l.foldl (pfStep rs w) ([], [])).1.length ≤ 0 + l.length := key l ([], [])
  unfold pfTo
  omega
theorem few5 {rs : Fl} {w : Nat} (ok : OkF rs w) {c : C2} (hc : Fr rs c) {S : List C2} (nd : S.Nodup) (con : ∀ d ∈ S, Con rs c d) : S.length ≤ 36 := by
  have n6 := ok.n6
  have w6 := ok.w6
  have h := nodup_lenG S (clsL 6 6) nd fun d m => by
    have := fre_in ok ((con d m).free hc)
    exact mem_cls.mpr ⟨by omega, by omega⟩
  exact Nat.le_trans h (by decide)
theorem con_all {rs : Fl} {w : Nat} (ok : OkF rs w) {c : C2} {S : List C2} (me : c ∈ S) (con : ∀ d ∈ S, Con rs c d) (cl : ∀ x ∈ freL rs w, ∀ d ∈ S, Adj d x → x ∈ S) (d : C2) : d ∈ S ↔ Con rs c d := by
  refine ⟨con d, fun h => ?_⟩
  induction h with
  | base => exact me
  | step _ a f ih => exact cl _ ((mem_freL ok).mpr f) _ ih a
abbrev N_law_floor_parts : List Str := ["rows", "cells", "k", "cell", "found", "taken", "first", "part", "turn", "many", "beside", "other"]
def t_law_floor_parts (K : PySem.W.Frag) (E : XK) : TS := (tSeq (tAsg (tLc (iRng1 (tCons (tC (.int 36)) tNil)) (gName 2) tYes (tTup (tCons (tOp rDivI (tVar 2) (tC (.int 6))) (tCons (tOp rModI (tCB rIntI (tCons (tVar 2) tNil)) (tC (.int 6))) tNil))) [2]) (gName 1)) (tSeq (tAsg (tLc (iList K (tVar 1)) (gName 3) (tAnd (tTest (tOp rLtI (tOp (rIxT K) (tVar 3) (tC (.int 0))) (tCB (rLenQ K) (tCons (tVar 0) tNil)))) (tTest (tOp rEq (tSl rSlS (tOp (rIxT K) (tVar 0) (tCB rMin2 (tCons (tOp (rIxT K) (tVar 3) (tC (.int 0))) (tCons (tOp rSubI (tCB (rLenQ K) (tCons (tVar 0) tNil)) (tC (.int 1))) tNil)))) (tPart (tOp (rIxT K) (tVar 3) (tC (.int 1)))) (tPart (tOp rAddI (tOp (rIxT K) (tVar 3) (tC (.int 1))) (tC (.int 1))))) (tC (.str "."))))) (tVar 3) [3]) (gName 1)) (tSeq (tAsg (tLst tNil) (gName 4)) (tSeq (tAsg (tLst tNil) (gName 5)) (tSeq (tFor (iList K (tVar 1)) (gName 6) (tIfS (tTest (tOp (rNotInD K) (tVar 6) (tVar 5))) (tSeq (tAsg (tLst (tCons (tVar 6) tNil)) (gName 7)) (tSeq (tFor (iRng1 (tCons (tC (.int 36)) tNil)) (gName 8) (tSeq (tAsg (tCB (rLenQ K) (tCons (tVar 7) tNil)) (gName 9)) (tSeq (tFor (iList K (tVar 1)) (gName 3) (tSeq (tAsg (tLc (iList K (tVar 7)) (gName 11) (tTest (tOp rEq (tOp rAddI (tCB rAbsI (tCons (tOp rSubI (tOp (rIxT K) (tVar 11) (tC (.int 0))) (tOp (rIxT K) (tVar 3) (tC (.int 0)))) tNil)) (tCB rAbsI (tCons (tOp rSubI (tOp (rIxT K) (tVar 11) (tC (.int 1))) (tOp (rIxT K) (tVar 3) (tC (.int 1)))) tNil))) (tC (.int 1)))) (tVar 11) [11]) (gName 10)) (tIfS (tAnd (tTest (tOp (rNotInD K) (tVar 3) (tVar 7))) (tTest (tOp rGtI (tCB (rLenQ K) (tCons (tVar 10) tNil)) (tC (.int 0))))) (tDrop (tBM K "list" rAppend (tVar 7) (tCons (tVar 3) tNil))) tNext))) (tIfS (tTest (tOp rEq (tCB (rLenQ K) (tCons (tVar 7) tNil)) (tVar 9))) tBreak tNext)))) (tSeq (tAsg (tOp rCat (tVar 5) (tVar 7)) (gName 5)) (tIfS (tTest (tOp rGtI (tCB (rLenQ K) (tCons (tVar 7) tNil)) (tC (.int 1)))) (tDrop (tBM K "list" rAppend (tVar 4) (tCons (tCall (sp_law_clipped K) [] E0 (tCons (tVar 7) tNil)) tNil))) tNext)))) tNext)) (tRet (tVar 4)))))))
theorem len_law_floor_parts {K : PySem.W.Frag} {vs : List V} {H : Hp} {Q : VK} {E : XK} (h : sp_law_floor_parts K vs H Q E) : vs.length = 1 := by
  obtain ⟨_, _, _, rfl, _⟩ := h; rfl
theorem pure_law_floor_parts {K : PySem.W.Frag} (vs : List V) (H : Hp) (Q : VK) (E : XK) (h : sp_law_floor_parts K vs H Q E) : t_law_floor_parts K E { nx := fun _ H' => Q .non H', rt := Q } (start N_law_floor_parts vs) H := by
  obtain ⟨t, rs, w, rfl, ht, ok, q⟩ := h
  have n1 := ok.n1
  have n6 := ok.n6
  have w1 := ok.w1
  have w6 := ok.w6
  have hl := rowsV_len rs
  unfold t_law_floor_parts
  repeat walk_at "mst"
  refine ⟨_, rfl, by decide, by decide, ?_⟩
  refine lcQ_rng (n := Int.toNat 36) (fun k y H => cellsV H y (c66 k)) (fun k y H H' h z => h.keep z) (fits' (by show 36 ≤ 3000; decide)) (fun k hk => ?_) fun C0 ys0 H1 nC0 e1 hC0 yl0 ok0 => ?_
  · intro H'' e'' RR rr
    repeat walk_at "mst"
    refine ⟨rfl, ?_⟩
    unfold tYes
    repeat walk_at "mst"
    walk_at "new"; rename_i tp ntp H8 e8 s8
    refine rr (.ref tp) H8 e8 ⟨tp, rfl, ?_⟩
    rw [s8]
    show some (HO.tup [V.int ((0 + (k : Int)) / 6), V.int ((0 + (k : Int)) % 6)]) = some (HO.tup [V.int ((k / 6 : Nat) : Int), V.int ((k % 6 : Nat) : Int)])
    rw [show (0 + (k : Int)) / 6 = ((k / 6 : Nat) : Int) by omega, show (0 + (k : Int)) % 6 = ((k % 6 : Nat) : Int) by omega]
  have R0 : AllAt cellsV H1 ys0 (clsL 6 6) := by
    rw [← cls66]
    refine ⟨by rw [List.length_map, List.length_range]; exact yl0, fun i c hc => ?_⟩
    rw [List.getElem?_map] at hc
    rcases Nat.lt_or_ge i 36 with h | h
    · rw [List.getElem?_range h] at hc
      cases hc
      exact ok0 i h
    · rw [List.getElem?_eq_none_iff.mpr (by rw [List.length_range]; exact h)] at hc
      cases hc
  have ht1 := e1 _ _ ht
  repeat walk_at "mst"
  refine ⟨C0, rfl, ⟨_, k_sq hC0⟩, lcR_list (keepP H1 fun c => fre rs c.1 c.2) (k_sq hC0) (fits' (by rw [yl0]; show 36 ≤ 3000; decide)) (fun x mx => ?_) fun C H2 nC e2 hC => ?_⟩
  · intro H'' e'' RR rr
    obtain ⟨i, hi⟩ := List.getElem?_of_mem mx
    have hil := (List.getElem?_eq_some_iff.mp hi).1
    have hc := List.getElem?_eq_getElem (l := clsL 6 6) (i := i) (by rw [← R0.1]; exact hil)
    obtain ⟨y, hy, at_⟩ := R0.2 i _ hc
    rw [hi] at hy
    cases hy
    generalize (clsL 6 6)[i]'(by rw [← R0.1]; exact hil) = c at *
    rw [keepP_at at_] at rr
    have rr := rr _ (Evl.Ex.refl _)
    obtain ⟨a, rfl, ha⟩ := at_.ex e''
    have ht'' := e'' _ _ ht1
    repeat walk_at "mst"
    refine ⟨rfl, ?_⟩
    repeat walk_at "mst"
    have no : ¬ c.1 < rs.length → RR none H'' := fun n => by
      rw [if_neg fun z => n (fre_in ok z).1] at rr
      exact rr
    refine k_iteD (fun z => ?_) (fun z => ?_)
    · obtain ⟨r, hr, o⟩ := ok.at (i := c.1) (by omega)
      have lr := o.1
      repeat walk_at "mst"
      rename_i m q1 q2 q3
      have em : m = ((c.1 : Nat) : Int) := by omega
      subst em
      refine k_ixT (k_st ht'') (atI_nat (rowsV_at hr)) ?_
      repeat walk_at "mst"
      refine k_slX (by omega) ?_
      rw [show (c.2 : Int) + 1 = ((c.2 + 1 : Nat) : Int) by omega, HT.sIx_nat, HT.sIx_nat]
      have ex : (r.drop (min c.2 r.length)).take (min (c.2 + 1) r.length - min c.2 r.length) = (r.drop c.2).take 1 := by
        rcases Nat.lt_or_ge c.2 r.length with h | h
        · rw [Nat.min_eq_left (by omega), Nat.min_eq_left (by omega), show c.2 + 1 - c.2 = 1 by omega]
        · rw [show min c.2 r.length = r.length by omega, show min (c.2 + 1) r.length = r.length by omega, List.drop_of_length_le (Nat.le_refl _), List.drop_of_length_le h]
          simp
      rw [ex]
      repeat walk_at "mst"
      refine k_eqX (b := [46]) ?_
      rw [fre_text ok hr]
      refine ⟨_, rfl, ?_⟩
      cases hf : fre rs c.1 c.2
      · rw [hf] at rr
        repeat walk_at "mst"
        exact rr
      · rw [hf] at rr
        repeat walk_at "mst"
        exact rr
    · repeat walk_at "mst"
      exact no (by omega)
  have R2 : AllAt cellsV H2 (ys0.filterMap (keepP H1 fun c => fre rs c.1 c.2)) (freL rs w) := by
    have h := keepP_list (f := fun c => fre rs c.1 c.2) R0
    rw [six_cells n6 w6 (fun c => fre rs c.1 c.2) fun c h => fre_in ok h] at h
    exact h.imp fun y c q => q.ex e2
  generalize ys0.filterMap (keepP H1 fun c => fre rs c.1 c.2) = cs at *
  have e02 := e1.trans e2
  have cl36 : (freL rs w).length ≤ 36 := by
    have := nodup_lenG _ (clsL 6 6) (freL_nodup rs w) fun c m => by
      have := fre_in ok ((mem_freL ok).mp m)
      exact mem_cls.mpr ⟨by omega, by omega⟩
    exact Nat.le_trans this (by decide)
  have csl := R2.1
  clear hC0 R0 ok0 yl0 ht1 nC0
  repeat walk_at "mst"
  walk_at "new"; rename_i fp nfp H3 e3 s3
  repeat walk_at "mst"
  walk_at "new"; rename_i ta0 nta0 H4 e4 s4
  have e04 := (e02.trans e3).trans e4
  have hf4 := e4 _ _ s3
  have hC4 := e4 _ _ (e3 _ _ hC)
  have R4 : AllAt cellsV H4 cs (freL rs w) := R2.imp fun y c q => q.ex (e3.trans e4)
  have nfp0 : H fp = none := Evl.fresh_back e02 nfp
  have nCf : C ≠ fp := ne_of_none hC nfp
  repeat walk_at "mst"
  refine ⟨C, rfl, ⟨_, k_sq hC4⟩, forK_list (xs := cs) (fun k σ H' => ∃ (zs txs : List V) (ta : Addr) (T : List C2) (x2 x3 x6 x7 x8 x9 x10 x11 : Option V), (∀ c o, H4 c = some o → c ≠ fp → H' c = some o) ∧ H' fp = some (.lst zs) ∧ fp ≠ ta ∧ H' ta = some (.lst txs) ∧ AllAt cellsV H' txs T ∧ T.Nodup ∧ (∀ d, d ∈ T ↔ d ∈ (pfTo rs w ((freL rs w).take k)).2) ∧ DsL H' zs (bigS (pfTo rs w ((freL rs w).take k)).1) ∧ σ = [some (.ref t), some (.ref C), x2, x3, some (.ref fp), some (.ref ta), x6, x7, x8, x9, x10, x11]) ⟨[], [], ta0, [], none, none, none, none, none, none, none, none, fun _ _ h _ => h, hf4, ne_of_none s3 nta0, s4, .nil, List.nodup_nil, fun d => Iff.rfl, .nil, rfl⟩ ?_ ?_ ?_⟩
  · rintro k σ H' _ ⟨zs, txs, ta, T, x2, x3, x6, x7, x8, x9, x10, x11, kp, _⟩; exact k_sq (kp _ _ hC4 nCf)
  · rintro k x σ H5 hx ⟨zs, txs, ta, T, x2, x3, x6, x7, x8, x9, x10, x11, kp, hf5, nft, hta5, RT, ndT, mem, ds, rfl⟩
    have hk := (List.getElem?_eq_some_iff.mp hx).1
    have hc : (freL rs w)[k]? = some ((freL rs w)[k]'(by omega)) := List.getElem?_eq_getElem _
    have tk : (freL rs w).take (k + 1) = (freL rs w).take k ++ [(freL rs w)[k]'(by omega)] := by rw [List.take_add_one, hc]; rfl
    have fc : Fr rs ((freL rs w)[k]'(by omega)) := (mem_freL ok).mp (List.mem_of_getElem? hc)
    obtain ⟨y, hy, a, rfl, ha⟩ := R4.2 k _ hc
    rw [hx] at hy
    cases hy
    rw [tk, pf_snoc]
    generalize (freL rs w)[k]'(by omega) = c at *
    have o := pf_ok ok ((freL rs w).take k)
    have o2 := pf_ok ok ((freL rs w).take k ++ [c])
    rw [pf_snoc] at o2
    have pl := pf_len5 rs w ((freL rs w).take k)
    rw [List.length_take] at pl
    have zl : zs.length ≤ 36 := by
      have := ds.1
      have := bigS_len5 (pfTo rs w ((freL rs w).take k)).1
      omega
    generalize pfTo rs w ((freL rs w).take k) = acc at *
    have naf : a ≠ fp := fun h => by rw [h, hf4] at ha; cases ha
    have ha5 := kp _ _ ha naf
    have hC5 := kp _ _ hC4 nCf
    have R5 : AllAt cellsV H5 cs (freL rs w) := R4.imp fun y c q => q.keep fun z o q n => kp z o q fun h => n _ (by rw [h, hf4] at q; exact (Option.some.inj q).symm)
    have txl := RT.1
    repeat walk_at "mst"
    refine k_notInCell (c := c) ⟨a, rfl, ha5⟩ (k_sq hta5) RT ?_
    refine ⟨_, rfl, ?_⟩
    by_cases mc : c ∈ T
    · rw [decide_eq_true mc, pf_skip (fun z => z.2 ((mem c).mp mc))]
      repeat walk_at "mst"
      exact ⟨zs, txs, ta, T, _, _, _, _, _, _, _, _, kp, hf5, nft, hta5, RT, ndT, mem, ds, rfl⟩
    · rw [decide_eq_false mc, if_pos (show (!false) = true from rfl)]
      have nin : fre rs c.1 c.2 = true ∧ c ∉ acc.2 := ⟨fc, fun m => mc ((mem c).mpr m)⟩
      rw [pf_new nin] at o2
      rw [pf_new nin, bigS_snoc5]
      repeat walk_at "mst"
      walk_at "new"; rename_i pa npa H6 e6 s6
      have hC6 := e6 _ _ hC5
      have R6 : AllAt cellsV H6 cs (freL rs w) := R5.imp fun y c q => q.ex e6
      have nCp : C ≠ pa := ne_of_none hC5 npa
      have nfp_ : fp ≠ pa := ne_of_none hf5 npa
      have ntp_ : ta ≠ pa := ne_of_none hta5 npa
      repeat walk_at "mst"
      refine ⟨_, rfl, by decide, by decide, ?_⟩
      refine forK_range (n := Int.toNat 36) (fun i σ H' => ∃ (ps : List V) (S : List C2) (y3 y8 y9 y10 y11 : Option V), (∀ z o, H6 z = some o → z ≠ pa → H' z = some o) ∧ H' pa = some (.lst ps) ∧ AllAt cellsV H' ps S ∧ S.Nodup ∧ c ∈ S ∧ (∀ d ∈ S, Con rs c d) ∧ i + 1 ≤ S.length ∧ σ = [some (.ref t), some (.ref C), x2, y3, some (.ref fp), some (.ref ta), some (.ref a), some (.ref pa), y8, y9, y10, y11]) ⟨[.ref a], [c], _, _, _, _, _, fun z o q _ => q, s6, .one ⟨a, rfl, e6 _ _ ha5⟩, by simp, List.mem_singleton.mpr rfl, fun d m => by rw [List.mem_singleton.mp m]; exact .base, Nat.le_refl _, rfl⟩ ?_ ?_
      · rintro i σ H7 hi ⟨ps, S, y3, y8, y9, y10, y11, k7, hp7, RS, ndS, cS, con, il, rfl⟩
        have few := few5 ok fc ndS con
        have psl := RS.1
        have hC7 := k7 _ _ hC6 nCp
        repeat walk_at "mst"
        refine ⟨C, rfl, ⟨_, k_sq hC7⟩, forK_list (xs := cs) (fun j σ H' => ∃ (p2 : List V) (S2 : List C2) (y3 y10 y11 : Option V), (∀ z o, H6 z = some o → z ≠ pa → H' z = some o) ∧ H' pa = some (.lst p2) ∧ AllAt cellsV H' p2 S2 ∧ S2.Nodup ∧ c ∈ S2 ∧ (∀ d ∈ S2, Con rs c d) ∧ S.length ≤ S2.length ∧ (S2.length = S.length → S2 = S ∧ ∀ (m : Nat) (x : C2), m < j → (freL rs w)[m]? = some x → ∀ d ∈ S, Adj d x → x ∈ S) ∧ σ = [some (.ref t), some (.ref C), x2, y3, some (.ref fp), some (.ref ta), some (.ref a), some (.ref pa), some (.int (i : Int)), some (.int (ps.length : Int)), y10, y11]) ⟨ps, S, _, _, _, k7, hp7, RS, ndS, cS, con, Nat.le_refl _, fun _ => ⟨rfl, fun m x h => absurd h (Nat.not_lt_zero _)⟩, rfl⟩ ?_ ?_ ?_⟩
        · rintro j σ H' _ ⟨p2, S2, z3, z10, z11, k8, _⟩; exact k_sq (k8 _ _ hC6 nCp)
        · rintro j x σ H8 hx ⟨p2, S2, z3, z10, z11, k8, hp8, RS2, nd2, cS2, con2, l1, st, rfl⟩
          have few2 := few5 ok fc nd2 con2
          have p2l := RS2.1
          have hj := (List.getElem?_eq_some_iff.mp hx).1
          have hcj : (freL rs w)[j]? = some ((freL rs w)[j]'(by omega)) := List.getElem?_eq_getElem _
          have fx : Fr rs ((freL rs w)[j]'(by omega)) := (mem_freL ok).mp (List.mem_of_getElem? hcj)
          obtain ⟨y', hy', u, rfl, hu⟩ := R6.2 j _ hcj
          rw [hx] at hy'
          cases hy'
          generalize (freL rs w)[j]'(by omega) = xc at *
          have nup : u ≠ pa := fun h => by rw [h, s6] at hu; cases hu
          have hu8 := k8 _ _ hu nup
          repeat walk_at "mst"
          refine ⟨pa, rfl, ⟨_, k_sq hp8⟩, lcR_list (keepP H8 (adjB xc)) (k_sq hp8) (fits' (by omega)) (fun x mx => ?_) fun N H9 nN e9 hN => ?_⟩
          · intro H'' e'' RR rr
            obtain ⟨i2, hi2⟩ := List.getElem?_of_mem mx
            have hil := (List.getElem?_eq_some_iff.mp hi2).1
            have hcd := List.getElem?_eq_getElem (l := S2) (i := i2) (by omega)
            obtain ⟨y', hy', at_⟩ := RS2.2 i2 _ hcd
            rw [hi2] at hy'
            cases hy'
            generalize S2[i2]'(by omega) = d at *
            rw [keepP_at at_] at rr
            have rr := rr _ (Evl.Ex.refl _)
            obtain ⟨v, rfl, hv⟩ := at_.ex e''
            have hu'' := e'' _ _ hu8
            repeat walk_at "mst"
            refine ⟨rfl, ?_⟩
            repeat walk_at "mst"
            refine k_iteD (fun z => ?_) (fun z => ?_)
            · rw [if_pos (show adjB xc d = true from decide_eq_true z)] at rr
              repeat walk_at "mst"
              exact rr
            · rw [if_neg (show ¬ adjB xc d = true from fun h => z (of_decide_eq_true h))] at rr
              repeat walk_at "mst"
              exact rr
          have nl := (keepP_list (f := adjB xc) RS2).1
          have hp9 := e9 _ _ hp8
          have hu9 := e9 _ _ hu8
          have RS9 : AllAt cellsV H9 p2 S2 := RS2.imp fun y c q => q.ex e9
          have k9 : ∀ z o, H6 z = some o → z ≠ pa → H9 z = some o := fun z o q n => e9 _ _ (k8 z o q n)
          have done : (∀ d ∈ S2, Adj d xc → xc ∈ S2) → (S2.length = S.length → S2 = S ∧ ∀ (m : Nat) (x : C2), m < j + 1 → (freL rs w)[m]? = some x → ∀ d ∈ S, Adj d x → x ∈ S) := by
            intro cl h
            obtain ⟨eq, st⟩ := st h
            subst eq
            refine ⟨rfl, fun m x hm hxm => ?_⟩
            rcases Nat.lt_or_ge m j with l | l
            · exact st m x l hxm
            · have : m = j := by omega
              subst this
              rw [hcj] at hxm
              cases hxm
              exact cl
          repeat walk_at "mst"
          refine k_notInCell (c := xc) ⟨u, rfl, hu9⟩ (k_sq hp9) RS9 ?_
          refine ⟨_, rfl, ?_⟩
          by_cases mx : xc ∈ S2
          · rw [decide_eq_true mx]
            repeat walk_at "mst"
            exact ⟨p2, S2, _, _, _, k9, hp9, RS9, nd2, cS2, con2, l1, done fun _ _ _ => mx, rfl⟩
          · rw [decide_eq_false mx]
            rw [if_pos (show (!false) = true from rfl)]
            repeat walk_at "mst"
            refine k_iteD (fun z => ?_) (fun z => ?_)
            · have pos : 0 < (S2.filter (adjB xc)).length := by omega
              obtain ⟨d, md⟩ := List.exists_mem_of_length_pos pos
              obtain ⟨md, ad⟩ := List.mem_filter.mp md
              have ad := (adjB_iff xc d).mp ad
              have nd3 : (S2 ++ [xc]).Nodup := List.nodup_append.mpr ⟨nd2, by simp, fun y my b mb => by rw [List.mem_singleton.mp mb]; exact fun e => mx (e ▸ my)⟩
              have con3 : ∀ d ∈ S2 ++ [xc], Con rs c d := fun y my => by
                rcases List.mem_append.mp my with my | my
                · exact con2 y my
                · rw [List.mem_singleton.mp my]; exact .step (con2 d md) ad fx
              repeat walk_at "mst"
              · exact fits' (by omega)
              refine ⟨p2 ++ [.ref u], S2 ++ [xc], _, _, _, fun z o q n => (upd_ne n).trans (k9 z o q n), upd_same, ?_, nd3, List.mem_append_left _ cS2, con3, by rw [List.length_append]; omega, fun h => ?_, rfl⟩
              · refine AllAt.snoc2 ?_ ⟨u, rfl, (upd_ne nup).trans hu9⟩
                exact RS9.imp fun y c q => q.keep fun a o z n => (upd_ne fun e => n _ (by rw [e, hp9] at z; exact (Option.some.inj z).symm)).trans z
              · rw [List.length_append] at h
                have h : S2.length + 1 = S.length := h
                omega
            · have none_ : ∀ d ∈ S2, Adj d xc → xc ∈ S2 := fun d md ad => by
                exfalso
                have : 0 < (S2.filter (adjB xc)).length := List.length_pos_of_mem (List.mem_filter.mpr ⟨md, (adjB_iff xc d).mpr ad⟩)
                omega
              repeat walk_at "mst"
              exact ⟨p2, S2, _, _, _, k9, hp9, RS9, nd2, cS2, con2, l1, done none_, rfl⟩
        · rintro σ H8 ⟨p2, S2, z3, z10, z11, k8, hp8, RS2, nd2, cS2, con2, l1, st, rfl⟩
          have few2 := few5 ok fc nd2 con2
          have p2l := RS2.1
          repeat walk_at "mst"
          refine k_iteD (fun y => ?_) (fun y => ?_)
          · obtain ⟨eq, cl⟩ := st (by omega)
            subst eq
            have memS := con_all ok cS2 con2 fun x mx d md ad => by
              obtain ⟨m, hm⟩ := List.getElem?_of_mem mx
              exact cl m x (by rw [csl]; exact (List.getElem?_eq_some_iff.mp hm).1) hm d md ad
            have W := comp_whole (w := w) ok fc
            have memC : ∀ d, d ∈ S2 ↔ d ∈ compL rs w c := fun d => (memS d).trans (mem_comp ok fc).symm
            have lenS := same_len nd2 W.nd memC
            have neS : S2 ≠ [] := fun h => by rw [h] at cS2; exact List.not_mem_nil cS2
            have six : ∀ d ∈ S2, d.1 < 6 ∧ d.2 < 6 := fun d m => W.six d ((memC d).mp m)
            have disj : ∀ d ∈ S2, d ∉ T := fun d m h => (List.nodup_append.mp o2.nd).2.2 d ((mem d).mp h) d ((memC d).mp m) rfl
            have ndTS : (T ++ S2).Nodup := List.nodup_append.mpr ⟨ndT, nd2, fun x mx y my e => disj y my (e ▸ mx)⟩
            have lenTS : (T ++ S2).length ≤ 36 := by
              have := nodup_lenG (T ++ S2) (clsL 6 6) ndTS fun d m => by
                rcases List.mem_append.mp m with m | m
                · have := fre_in ok (o.fr d ((mem d).mp m))
                  exact mem_cls.mpr ⟨by omega, by omega⟩
                · exact mem_cls.mpr (six d m)
              exact Nat.le_trans this (by decide)
            rw [List.length_append] at lenTS
            have mem2 : ∀ d, d ∈ T ++ S2 ↔ d ∈ acc.2 ++ compL rs w c := fun d => by rw [List.mem_append, List.mem_append, mem d, memC d]
            have hta8 := k8 _ _ (e6 _ _ hta5) ntp_
            have hf8 := k8 _ _ (e6 _ _ hf5) nfp_
            have nl8 : ∀ z o, H6 z = some o → (∀ ys, o ≠ .lst ys) → H8 z = some o := fun z o q n => k8 z o q fun h => n _ (by rw [h, s6] at q; exact (Option.some.inj q).symm)
            have RT8 : AllAt cellsV H8 txs T := (RT.imp fun y c q => q.ex e6).imp fun y c q => q.keep nl8
            have ds8 : DsL H8 zs (bigS acc.1) := (ds.imp fun y c q => q.ex e6).imp fun y c q => q.keep nl8
            have kp8 : ∀ z o, H4 z = some o → z ≠ fp → H8 z = some o := fun z o q n => by
              have h6 := e6 _ _ (kp z o q n)
              exact k8 z o h6 (ne_of_none (kp z o q n) npa)
            repeat walk_at "mst"
            unfold tBreak
            dsimp only
            repeat walk_at "mst"
            refine n_cat hta8 hp8 (fits (by omega)) fun tb H9 ntb e9 htb => ?_
            have hf9 := e9 _ _ hf8
            have hp9 := e9 _ _ hp8
            have RS9 : AllAt cellsV H9 p2 S2 := RS2.imp fun y c q => q.ex e9
            have RT9 : AllAt cellsV H9 (txs ++ p2) (T ++ S2) := (RT8.imp fun y c q => q.ex e9).app RS9
            have ds9 := ds8.imp fun y c q => q.ex e9
            have nft9 : fp ≠ tb := ne_of_none hf8 ntb
            repeat walk_at "mst"
            refine k_iteD (fun z => ?_) (fun z => ?_)
            · rw [if_pos (show 1 < (compL rs w c).length by omega)]
              repeat walk_at "mst"
              refine use_clipped hp9 RS9 neS six few2 fun v HA eA hv => ?_
              rw [clip_same neS memC] at hv
              have hfA := eA _ _ hf9
              repeat walk_at "mst"
              · exact fits' (by omega)
              have nlA : ∀ z o, HA z = some o → (∀ ys, o ≠ .lst ys) → upd HA fp (HO.lst (zs ++ [v])) z = some o := fun z o q n => (upd_ne fun h => n _ (by rw [h, hfA] at q; exact (Option.some.inj q).symm)).trans q
              refine ⟨zs ++ [v], txs ++ p2, tb, T ++ S2, _, _, _, _, _, _, _, _, fun z o q n => (upd_ne n).trans (eA _ _ (e9 _ _ (kp8 z o q n))), upd_same, nft9, (upd_ne nft9.symm).trans (eA _ _ htb), (RT9.imp fun y c q => q.ex eA).imp fun y c q => q.keep nlA, ndTS, mem2, ?_, rfl⟩
              exact ((ds9.imp fun y c q => q.ex eA).imp fun y c q => q.keep nlA).app (.one (hv.keep nlA))
            · rw [if_neg (show ¬ 1 < (compL rs w c).length by omega), List.append_nil]
              repeat walk_at "mst"
              exact ⟨zs, txs ++ p2, tb, T ++ S2, _, _, _, _, _, _, _, _, fun z o q n => e9 _ _ (kp8 z o q n), hf9, nft9, htb, RT9, ndTS, mem2, ds9, rfl⟩
          · repeat walk_at "mst"
            exact ⟨p2, S2, _, _, _, _, _, k8, hp8, RS2, nd2, cS2, con2, by omega, rfl⟩
      · rintro σ H7 ⟨ps, S, y3, y8, y9, y10, y11, k7, hp7, RS, ndS, cS, con, il, rfl⟩
        have := few5 ok fc ndS con
        have : Int.toNat 36 = 36 := rfl
        omega
  · rintro σ H5 ⟨zs, txs, ta, T, x2, x3, x6, x7, x8, x9, x10, x11, kp, hf5, nft, hta5, RT, ndT, mem, ds, rfl⟩
    rw [csl, List.take_length] at ds
    have ds : DsL H5 zs (partsF rs w) := by
      unfold partsF
      rw [← pf_filter]
      exact ds
    have kpH : Ex H H5 := fun z o q => kp z o (e04 _ _ q) (ne_of_none q nfp0)
    repeat walk_at "mst"
    exact q fp zs H5 nfp0 kpH hf5 ds
theorem use_lfparts {K : PySem.W.Frag} {H : Hp} {Q : VK} {E : XK} {t : Addr} {rs : Fl} {w : Nat} (ht : H t = some (.tup (rowsV rs))) (ok : OkF rs w) (q : ∀ p ys H', H p = none → Ex H H' → H' p = some (.lst ys) → DsL H' ys (partsF rs w) → Q (.ref p) H') : sp_law_floor_parts K ([.ref t] ++ []) H Q E := ⟨t, rs, w, rfl, ht, ok, q⟩
/-- the same nested tuples of texts and ints, at most n deep -/
def SameD (K : PySem.W.Frag) (H : Hp) : Nat → V → V → Prop
  | 0, _, _ => False
  | n + 1, x, y => (∃ s, x = .str s ∧ y = .str s ∧ PyData.strOk s = true) ∨ (∃ i, x = .int i ∧ y = .int i) ∨ ∃ a b xs ys, x = .ref a ∧ y = .ref b ∧ H a = some (.tup xs) ∧ H b = some (.tup ys) ∧ xs.length = ys.length ∧ xs.length ≤ 1000 ∧ ∀ (k : Nat) (x' y' : V), xs[k]? = some x' → ys[k]? = some y' → SameD K H n x' y'
def sp_law_same (K : PySem.W.Frag) (n : Nat) : Sp := fun vs H Q _ => ∃ x y, vs = [x, y] ∧ SameD K H n x y ∧ Q (.bl true) H
abbrev N_law_same : List Str := ["told", "due", "k"]
def t_law_same (K : PySem.W.Frag) (n : Nat) (E : XK) : TS := (tSeq (tIfS (tB (tCB (rIsi K) (tCons (tVar 1) (tCons (tC (.ty "tuple")) tNil)))) (tSeq (tIfS (tOr (tNot (tB (tCB (rIsi K) (tCons (tVar 0) (tCons (tC (.ty "tuple")) tNil))))) (tTest (tOp rNe (tCB (rLenQ K) (tCons (tVar 0) tNil)) (tCB (rLenQ K) (tCons (tVar 1) tNil))))) (tRet (tC (.bl false))) tNext) (tSeq (tFor (iRng1 (tCons (tCB (rLenQ K) (tCons (tVar 1) tNil)) tNil)) (gName 2) (tIfS (tNot (tB (tCall (sp_law_same K n) [] E0 (tCons (tOp (rIxT K) (tVar 0) (tVar 2)) (tCons (tOp (rIxT K) (tVar 1) (tVar 2)) tNil))))) (tRet (tC (.bl false))) tNext)) (tRet (tC (.bl true))))) tNext) (tSeq (tIfS (tB (tCB (rIsi K) (tCons (tVar 1) (tCons (tC (.ty "str")) tNil)))) (tRet (tAndV (tCB (rIsi K) (tCons (tVar 0) (tCons (tC (.ty "str")) tNil))) (tOp (rEqD K) (tVar 0) (tVar 1)))) tNext) (tRet (tAndV (tCB (rIsi K) (tCons (tVar 0) (tCons (tC (.ty "int")) tNil))) (tAndV (tNotV (tCB (rIsi K) (tCons (tVar 0) (tCons (tC (.ty "bool")) tNil)))) (tOp (rEqD K) (tVar 0) (tVar 1)))))))
theorem len_law_same {K : PySem.W.Frag} {n : Nat} {vs : List V} {H : Hp} {Q : VK} {E : XK} (h : sp_law_same K n vs H Q E) : vs.length = 2 := by
  obtain ⟨_, _, rfl, _⟩ := h; rfl
theorem no_law_same {K : PySem.W.Frag} {vs : List V} {H : Hp} {Q : VK} {E : XK} : ¬ sp_law_same K 0 vs H Q E := fun ⟨_, _, _, h, _⟩ => h
theorem same_scal {K : PySem.W.Frag} {H : Hp} {Q : VK} {x : V} (h : ∃ d, Dp K H x d ∧ SeqAt.shaped d = true ∧ PyData.eqv d d = true) (q : Q (.bl true) H) : rEqD K x x H Q := by
  obtain ⟨d, h1, h2, h3⟩ := h
  exact ⟨d, d, h1, h1, h2, h2, by rw [h3]; exact q⟩
theorem pure_law_same {K : PySem.W.Frag} (n : Nat) (vs : List V) (H : Hp) (Q : VK) (E : XK) (h : sp_law_same K (n + 1) vs H Q E) : t_law_same K n E { nx := fun _ H' => Q .non H', rt := Q } (start N_law_same vs) H := by
  obtain ⟨x, y, rfl, sd, q⟩ := h
  unfold t_law_same
  rcases sd with ⟨s, rfl, rfl, so⟩ | ⟨i, rfl, rfl⟩ | ⟨a, b, xs, ys, rfl, rfl, hx, hy, l, few, ih⟩
  · repeat walk_at "mst"
    refine k_isi (cls_ty "tuple") (.base (.str s)) (kit_ty (b := "tuple") (r := false) (by decide +kernel)) ?_
    repeat walk_at "mst"
    refine k_isi (cls_ty "str") (.base (.str s)) (kit_ty (b := "str") (r := true) (by decide +kernel)) ?_
    repeat walk_at "mst"
    refine k_isi (cls_ty "str") (.base (.str s)) (kit_ty (b := "str") (r := true) (by decide +kernel)) ?_
    repeat walk_at "mst"
    exact same_scal ⟨.str s, .str s, by unfold SeqAt.shaped; simp [PyData.canLay0, PyData.depth, so], by simp [PyData.eqv]⟩ q
  · repeat walk_at "mst"
    refine k_isi (cls_ty "tuple") (.base (.int i)) (kit_ty (b := "tuple") (r := false) (by decide +kernel)) ?_
    repeat walk_at "mst"
    refine k_isi (cls_ty "str") (.base (.int i)) (kit_ty (b := "str") (r := false) (by decide +kernel)) ?_
    repeat walk_at "mst"
    exact same_scal ⟨.int i, .int i, by unfold SeqAt.shaped; simp [PyData.canLay0, PyData.depth], by simp [PyData.eqv]⟩ q
  · repeat walk_at "mst"
    refine k_isi (cls_ty "tuple") (.base (.tup hy)) (kit_ty (b := "tuple") (r := true) (by decide +kernel)) ?_
    repeat walk_at "mst"
    refine k_isi (cls_ty "tuple") (.base (.tup hx)) (kit_ty (b := "tuple") (r := true) (by decide +kernel)) ?_
    repeat walk_at "mst"
    refine k_iteD (fun z => absurd (by omega) z) (fun _ => ?_)
    repeat walk_at "mst"
    refine ⟨_, rfl, by omega, by omega, ?_⟩
    rw [Int.toNat_natCast]
    refine forK_range (fun i σ H' => H' = H ∧ ∃ x2 : Option V, σ = [some (.ref a), some (.ref b), x2]) ⟨rfl, _, rfl⟩ ?_ ?_
    · rintro i σ H' hi ⟨rfl, x2, rfl⟩
      have h1 := List.getElem?_eq_getElem (l := xs) (i := i) (by omega)
      have h2 := List.getElem?_eq_getElem (l := ys) (i := i) hi
      repeat walk_at "mst"
      refine k_ixT (k_st hx) (atI_nat h1) ?_
      repeat walk_at "mst"
      refine k_ixT (k_st hy) (atI_nat h2) ?_
      repeat walk_at "mst"
      refine ⟨_, _, rfl, ih i _ _ h1 h2, ?_⟩
      repeat walk_at "mst"
      exact ⟨rfl, _, rfl⟩
    · rintro σ H' ⟨rfl, x2, rfl⟩
      repeat walk_at "mst"
      exact q
theorem use_same {K : PySem.W.Frag} {n : Nat} {H : Hp} {Q : VK} {E : XK} {x y : V} (sd : SameD K H n x y) (q : Q (.bl true) H) : sp_law_same K n ([x, y] ++ []) H Q E := ⟨x, y, rfl, sd, q⟩
def sp_Floor_m_value (K : PySem.W.Frag) : Sp := fun vs H Q _ => ∃ (b : Addr) (l : Fl), vs = [.ref b] ∧ FlAt K H b l ∧ ∀ v H', Ex H H' → DuL H' v l → Q v H'
local macro_rules | `(tactic| walk_at "mlk") => `(tactic| exact gfl_get _)
abbrev N_Floor_m_value : List Str := ["self"]
def t_Floor_m_value (K : PySem.W.Frag) (E : XK) : TS := (tRet (tTup (tCons (tC (.str "floor")) (tCons (tFld K (tVar 0) "_rows") tNil))))
theorem len_Floor_m_value {K : PySem.W.Frag} {vs : List V} {H : Hp} {Q : VK} {E : XK} (h : sp_Floor_m_value K vs H Q E) : vs.length = 1 := by
  obtain ⟨_, _, rfl, _⟩ := h; rfl
theorem pure_Floor_m_value {K : PySem.W.Frag} (F : FFloor K) (vs : List V) (H : Hp) (Q : VK) (E : XK) (h : sp_Floor_m_value K vs H Q E) : t_Floor_m_value K E { nx := fun _ H' => Q .non H', rt := Q } (start N_Floor_m_value vs) H := by
  obtain ⟨b, l, rfl, ⟨dx, t, hb, ht⟩, q⟩ := h
  unfold t_Floor_m_value
  obtain ⟨cl, na⟩ := F
  repeat walk_at "mst"
  exact ⟨fits (Nat.le_of_ble_eq_true rfl), fun p np => q _ _ (Evl.Ex.new np) ⟨p, t, rfl, upd_same, Evl.Ex.new np _ _ ht⟩⟩
theorem use_flvalue {K : PySem.W.Frag} {H : Hp} {Q : VK} {E : XK} {b : Addr} {l : Fl} (h : FlAt K H b l) (q : ∀ v H', Ex H H' → DuL H' v l → Q v H') : sp_Floor_m_value K (.ref b :: ([] ++ [])) H Q E := ⟨b, l, rfl, h, q⟩
def sp_law_told (K : PySem.W.Frag) : Sp := fun vs H Q _ => ∃ (p d : Addr) (ys ds : List V) (ls : List Fl), vs = [.ref p, .ref d] ∧ H p = some (.lst ys) ∧ SqL K H d ds ∧ BsL K H ys ls ∧ DsL H ds ls ∧ ls.length ≤ 2000 ∧ (∀ l ∈ ls, ∃ w, OkF l w) ∧ ∀ H', (∀ c o, H c = some o → c ≠ p → H' c = some o) → Q (.bl true) H'
theorem row_str {r : List Nat} {w : Nat} (o : OkR w r) : PyData.strOk (tx r) = true := by
  unfold PyData.strOk tx
  rw [List.all_toArray, List.all_eq_true]
  intro c m
  rcases o.2 c m with rfl | rfl <;> rfl
theorem fl_same {K : PySem.W.Frag} {H : Hp} {x y : V} {l : Fl} (h1 : DuL H x l) (h2 : DuL H y l) (ok : ∃ w, OkF l w) : SameD K H 4 x y := by
  obtain ⟨w, ok⟩ := ok
  obtain ⟨d, t, rfl, hd, ht⟩ := h1
  obtain ⟨e, u, rfl, he, hu⟩ := h2
  refine Or.inr (Or.inr ⟨d, e, _, _, rfl, rfl, hd, he, rfl, by show 2 ≤ 1000; decide, fun k x y hx hy => ?_⟩)
  match k with
  | 0 => cases hx; cases hy; exact Or.inl ⟨_, rfl, rfl, by decide +kernel⟩
  | 1 =>
    cases hx; cases hy
    refine Or.inr (Or.inr ⟨t, u, _, _, rfl, rfl, ht, hu, rfl, by rw [rowsV_len]; have := ok.n6; omega, fun k x y hx hy => ?_⟩)
    rw [hx] at hy
    cases hy
    obtain ⟨r, mr, rfl⟩ := List.mem_map.mp (List.mem_of_getElem? hx)
    exact Or.inl ⟨_, rfl, rfl, row_str (ok.ok r mr)⟩
  | k + 2 => cases hx
abbrev N_law_told : List Str := ["boards", "dues", "k"]
def t_law_told (K : PySem.W.Frag) (E : XK) : TS := (tSeq (tIfS (tOr (tNot (tB (tCB (rIsi K) (tCons (tVar 0) (tCons (tC (.ty "list")) tNil))))) (tTest (tOp rNe (tCB (rLenQ K) (tCons (tVar 0) tNil)) (tCB (rLenQ K) (tCons (tVar 1) tNil))))) (tRet (tC (.bl false))) tNext) (tSeq (tFor (iRng1 (tCons (tCB (rLenQ K) (tCons (tVar 1) tNil)) tNil)) (gName 2) (tIfS (tOr (tNot (tB (tCB (rIsC (He.ga K "Floor")) (tCons (tOp (rIxL K) (tVar 0) (tVar 2)) (tCons (tC (.ref (He.ga K "Floor"))) tNil))))) (tNot (tB (tCall (sp_law_same K 4) [] E0 (tCons (tMeth (He.ga K "Floor") "value" (sp_Floor_m_value K) [] E0 (tOp (rIxL K) (tVar 0) (tVar 2)) tNil) (tCons (tOp (rIxL K) (tVar 1) (tVar 2)) tNil)))))) (tRet (tC (.bl false))) tNext)) (tSeq (tDrop (tBM0 K "list" rReverse (tVar 0))) (tSeq (tDrop (tBM K "list" rAppend (tVar 0) (tCons (tC .non) tNil))) (tRet (tC (.bl true)))))))
theorem len_law_told {K : PySem.W.Frag} {vs : List V} {H : Hp} {Q : VK} {E : XK} (h : sp_law_told K vs H Q E) : vs.length = 2 := by
  obtain ⟨_, _, _, _, _, rfl, _⟩ := h; rfl
theorem pure_law_told {K : PySem.W.Frag} (vs : List V) (H : Hp) (Q : VK) (E : XK) (h : sp_law_told K vs H Q E) : t_law_told K E { nx := fun _ H' => Q .non H', rt := Q } (start N_law_told vs) H := by
  obtain ⟨p, d, ys, ds, css, rfl, hp, hd, bs, dd, few, sl, q⟩ := h
  unfold t_law_told
  have xl : ys.length = css.length := bs.1
  have yl : ds.length = css.length := dd.1
  repeat walk_at "mst"
  refine k_isi (cls_ty "list") (.base (.lst hp)) (kit_ty (b := "list") (r := true) (by decide +kernel)) ?_
  repeat walk_at "mst"
  refine k_iteD (fun z => absurd (by omega) z) (fun _ => ?_)
  repeat walk_at "mst"
  refine ⟨_, rfl, by omega, by omega, ?_⟩
  rw [Int.toNat_natCast]
  refine forK_range (fun i σ H' => Ex H H' ∧ ∃ x2 : Option V, σ = [some (.ref p), some (.ref d), x2]) ⟨Evl.Ex.refl _, _, rfl⟩ ?_ ?_
  · rintro i σ H' hi ⟨e, x2, rfl⟩
    have hz := List.getElem?_eq_getElem (l := css) (i := i) (by omega)
    have okl := sl _ (List.mem_of_getElem? hz)
    obtain ⟨_, hb, b, rfl, hB⟩ := bs.2 i _ hz
    obtain ⟨w, hw, hW⟩ := dd.2 i _ hz
    generalize css[i] = cs at *
    have hB' := hB.ex e
    obtain ⟨dx, tt, hB1, _⟩ := id hB'
    have hp' := e _ _ hp
    have hd' := Evl.ex_l e hd
    repeat walk_at "mst"
    refine k_ixL (k_sq hp') (atI_nat hb) ?_
    repeat walk_at "mst"
    refine k_rIsC hB1 ?_
    repeat walk_at "mst"
    refine k_ixL (k_sq hp') (atI_nat hb) ?_
    repeat walk_at "mst"
    refine ⟨b, dx, _, rfl, hB1, gfl_no _ (by decide +kernel), ?_⟩
    repeat walk_at "mst"
    refine use_flvalue hB' fun v H2 e2 hv => ?_
    have hd2 := Evl.ex_l e2 hd'
    repeat walk_at "mst"
    refine k_ixL hd2 (atI_nat hw) ?_
    repeat walk_at "mst"
    refine use_same (fl_same hv ((hW.ex e).ex e2) okl) ?_
    repeat walk_at "mst"
    exact ⟨e.trans e2, _, rfl⟩
  · rintro σ H' ⟨e, x2, rfl⟩
    have hp' := e _ _ hp
    repeat walk_at "mst"
    refine ⟨p, _, rfl, rfl, hp', ?_⟩
    have k1 : ∀ c o, H c = some o → c ≠ p → upd H' p (HO.lst ys.reverse) c = some o := fun c o z y => (upd_ne y).trans (e _ _ z)
    have s1 : upd H' p (HO.lst ys.reverse) p = some (HO.lst ys.reverse) := upd_same
    generalize upd H' p (HO.lst ys.reverse) = H1 at *
    repeat walk_at "mst"
    · rw [List.length_reverse]; exact fits' (by omega)
    exact q _ fun c o z y => (upd_ne y).trans (k1 c o z y)
theorem use_fltold {K : PySem.W.Frag} {H : Hp} {Q : VK} {E : XK} {p d : Addr} {ys ds : List V} {ls : List Fl} (hp : H p = some (.lst ys)) (hd : SqL K H d ds) (bs : BsL K H ys ls) (dd : DsL H ds ls) (few : ls.length ≤ 2000) (sl : ∀ l ∈ ls, ∃ w, OkF l w) (q : ∀ H', (∀ c o, H c = some o → c ≠ p → H' c = some o) → Q (.bl true) H') : sp_law_told K ([.ref p, .ref d] ++ []) H Q E := ⟨p, d, ys, ds, ls, rfl, hp, hd, bs, dd, few, sl, q⟩
/-- a free cell, by any integers -/
def freZ (rs : Fl) (i j : Int) : Bool := decide (0 ≤ i) && decide (0 ≤ j) && fre rs i.toNat j.toNat
theorem freZ_nat (rs : Fl) (i j : Nat) : freZ rs (i : Int) (j : Int) = fre rs i j := by
  unfold freZ
  rw [decide_eq_true (Int.natCast_nonneg i), decide_eq_true (Int.natCast_nonneg j), Int.toNat_natCast, Int.toNat_natCast]
  rfl
def sp_Floor_p_is_free (K : PySem.W.Frag) : Sp := fun vs H Q _ => ∃ (b : Addr) (rs : Fl) (w : Nat) (i j : Int), vs = [.ref b, .int i, .int j] ∧ FlAt K H b rs ∧ OkF rs w ∧ Q (.bl (freZ rs i j)) H
local macro_rules | `(tactic| walk_at "mlk") => `(tactic| exact gfl_get _)
abbrev N_Floor_p_is_free : List Str := ["self", "row", "column"]
def t_Floor_p_is_free (K : PySem.W.Frag) (E : XK) : TS := (tSeq (tIfS (tAnd (tTest (tChain rLeI rLtI (tC (.int 0)) (tVar 1) (tCB (rLenQ K) (tCons (tFld K (tVar 0) "_rows") tNil)))) (tTest (tChain rLeI rLtI (tC (.int 0)) (tVar 2) (tCB rLenS (tCons (tOp (rIxT K) (tFld K (tVar 0) "_rows") (tC (.int 0))) tNil))))) (tRet (tOp rEq (tOp rIxS (tOp (rIxT K) (tFld K (tVar 0) "_rows") (tVar 1)) (tVar 2)) (tC (.str ".")))) tNext) (tRet (tC (.bl false))))
theorem len_Floor_p_is_free {K : PySem.W.Frag} {vs : List V} {H : Hp} {Q : VK} {E : XK} (h : sp_Floor_p_is_free K vs H Q E) : vs.length = 3 := by
  obtain ⟨_, _, _, _, _, rfl, _⟩ := h; rfl
theorem pure_Floor_p_is_free {K : PySem.W.Frag} (F : FFloor K) (vs : List V) (H : Hp) (Q : VK) (E : XK) (h : sp_Floor_p_is_free K vs H Q E) : t_Floor_p_is_free K E { nx := fun _ H' => Q .non H', rt := Q } (start N_Floor_p_is_free vs) H := by
  obtain ⟨b, rs, w, i, j, rfl, ⟨dx, t, hb, ht⟩, ok, q⟩ := h
  unfold t_Floor_p_is_free
  obtain ⟨cl, na⟩ := F
  have hl := rowsV_len rs
  by_cases hi0 : 0 ≤ i
  rotate_left
  · have q : Q (.bl false) H := by
      unfold freZ at q
      rw [decide_eq_false hi0] at q
      exact q
    repeat walk_at "mst"
    refine k_iteD (fun z => absurd z hi0) (fun z => ?_)
    repeat walk_at "mst"
    exact q
  by_cases hj0 : 0 ≤ j
  rotate_left
  · have q : Q (.bl false) H := by
      unfold freZ at q
      rw [decide_eq_false hj0, Bool.and_false] at q
      exact q
    repeat walk_at "mst"
    refine k_iteD (fun z => ?_) (fun z => absurd hi0 z)
    repeat walk_at "mst"
    refine k_iteD (fun z1 => ?_) (fun z1 => ?_)
    · repeat walk_at "mst"
      refine k_iteD (fun z2 => absurd z2 hj0) (fun z2 => ?_)
      repeat walk_at "mst"
      exact q
    · repeat walk_at "mst"
      exact q
  obtain ⟨i, rfl⟩ : ∃ n : Nat, i = (n : Int) := ⟨i.toNat, by omega⟩
  obtain ⟨j, rfl⟩ : ∃ n : Nat, j = (n : Int) := ⟨j.toNat, by omega⟩
  rw [freZ_nat] at q
  have out : ¬ (i < rs.length ∧ j < w) → fre rs i j = false := fun n => by
    cases e : fre rs i j
    · rfl
    · exact absurd (fre_in ok e) n
  obtain ⟨r0, h0, o0⟩ := ok.at (i := 0) ok.n1
  have w6 := ok.w6
  repeat walk_at "mst"
  refine k_iteD (fun z => ?_) (fun z => absurd (Int.natCast_nonneg i) z)
  repeat walk_at "mst"
  have no : ¬ (i < rs.length ∧ j < w) → Q (.bl false) H := fun n => by
    have e := out n
    rw [e] at q
    exact q
  refine k_iteD (fun z1 => ?_) (fun z1 => ?_)
  · repeat walk_at "mst"
    refine k_iteD (fun z2 => ?_) (fun z2 => absurd (Int.natCast_nonneg j) z2)
    repeat walk_at "mst"
    refine k_ixT (k_st ht) (atI_nat (j := 0) (rowsV_at h0)) ?_
    repeat walk_at "mst"
    have l0 := o0.1
    refine k_lenX (by omega) ?_
    repeat walk_at "mst"
    refine k_iteD (fun z3 => ?_) (fun z3 => ?_)
    · repeat walk_at "mst"
      obtain ⟨r, hr, o⟩ := ok.at (i := i) (by omega)
      have lr := o.1
      refine k_ixT (k_st ht) (atI_nat (rowsV_at hr)) ?_
      repeat walk_at "mst"
      have hj : r[j]? = some (r[j]'(by omega)) := List.getElem?_eq_getElem _
      refine k_ixX (by omega) (atI_nat hj) ?_
      repeat walk_at "mst"
      refine k_eqX (b := [46]) ?_
      have e : decide ([r[j]'(by omega)] = [46]) = fre rs i j := by
        unfold fre cell
        rw [hr]
        show _ = decide (r[j]? = some 46)
        rw [hj]
        exact decide_eq_decide.mpr ⟨fun h => by injection h with h; rw [h], fun h => by injection h with h; rw [h]⟩
      rw [e]
      exact q
    · repeat walk_at "mst"
      exact no fun h => by omega
  · repeat walk_at "mst"
    exact no fun h => by omega
theorem use_freeZ {K : PySem.W.Frag} {H : Hp} {Q : VK} {E : XK} {b : Addr} {rs : Fl} {w : Nat} {i j : Int} (h : FlAt K H b rs) (ok : OkF rs w) (q : Q (.bl (freZ rs i j)) H) : sp_Floor_p_is_free K (.ref b :: ([.int i, .int j] ++ [])) H Q E := ⟨b, rs, w, i, j, rfl, h, ok, q⟩
theorem use_free {K : PySem.W.Frag} {H : Hp} {Q : VK} {E : XK} {b : Addr} {rs : Fl} {w i j : Nat} (h : FlAt K H b rs) (ok : OkF rs w) (q : Q (.bl (fre rs i j)) H) : sp_Floor_p_is_free K (.ref b :: ([.int (i : Int), .int (j : Int)] ++ [])) H Q E := ⟨b, rs, w, i, j, rfl, h, ok, by rw [freZ_nat]; exact q⟩
def kC (c : C2) : List Key := [Sum.inl (c.1 : Int), Sum.inl (c.2 : Int)]
theorem kC_inj {c d : C2} (h : kC c = kC d) : c = d := by
  unfold kC at h
  simp only [List.cons.injEq, Sum.inl.injEq, and_true] at h
  exact Prod.ext (by omega) (by omega)
theorem kC_map (c : C2) : (kC c).map kV = [.int (c.1 : Int), .int (c.2 : Int)] := rfl
/-- a dict of cells -/
def stC (S : List C2) : List (List Key × V) := S.map fun d => (kC d, .bl true)
theorem stC_val (S : List C2) (c : C2) : (valV (stC S) (kC c)).isSome = decide (c ∈ S) := by
  unfold valV stC
  rw [Option.isSome_map, Bool.eq_iff_iff, List.find?_isSome, decide_eq_true_iff]
  constructor
  · rintro ⟨e, m, z⟩
    obtain ⟨d, md, rfl⟩ := List.mem_map.mp m
    exact kC_inj (of_decide_eq_true z) ▸ md
  · exact fun m => ⟨_, List.mem_map.mpr ⟨c, m, rfl⟩, decide_eq_true rfl⟩
theorem stC_put {S : List C2} {c : C2} (h : c ∉ S) : putK (stC S) (kC c) (.bl true) = stC (S ++ [c]) := by
  unfold putK stC
  rw [if_neg, List.map_append]
  · rfl
  · rw [List.any_eq_true]
    rintro ⟨e, m, z⟩
    obtain ⟨d, md, rfl⟩ := List.mem_map.mp m
    exact h (kC_inj (of_decide_eq_true z) ▸ md)
theorem stC_len (S : List C2) : (stC S).length = S.length := List.length_map _
def sp_Floor_p_together (K : PySem.W.Frag) : Sp := fun vs H Q _ => ∃ (b ca : Addr) (rs : Fl) (w : Nat) (c : C2), vs = [.ref b, .ref ca] ∧ FlAt K H b rs ∧ OkF rs w ∧ H ca = some (.tup [.int (c.1 : Int), .int (c.2 : Int)]) ∧ Fr rs c ∧ ∀ D S H', H D = none → Ex H H' → H' D = some (.dT (stC S)) → S.Nodup → (∀ d, d ∈ S ↔ Con rs c d) → Q (.ref D) H'
local macro_rules | `(tactic| walk_at "new") => `(tactic| ((first | refine ⟨fits (Nat.le_of_ble_eq_true rfl), ?_⟩ | skip); intro p np; generalize hq : upd _ p _ = H1; have e1 := nx np hq; have s1 := nS hq; clear hq))
def nxt (i : Nat) : Int × Int := match i with | 0 => (-1, 0) | 1 => (0, -1) | 2 => (0, 1) | _ => (1, 0)
/-- what is found so far -/
structure Tg (rs : Fl) (c : C2) (S W : List C2) : Prop where
  nd : S.Nodup
  me : c ∈ S
  con : ∀ d ∈ S, Con rs c d
  ws : ∀ d ∈ W, d ∈ S
  cl : ∀ d ∈ S, d ∉ W → ∀ e, Adj d e → Fr rs e → e ∈ S
/-- the same while a cell's neighbours are looked at -/
structure Tm (rs : Fl) (c d : C2) (i : Nat) (S W : List C2) : Prop where
  nd : S.Nodup
  me : c ∈ S
  con : ∀ x ∈ S, Con rs c x
  ws : ∀ x ∈ W, x ∈ S
  dm : d ∈ S
  cl : ∀ x ∈ S, x ∉ W → x ≠ d → ∀ e, Adj x e → Fr rs e → e ∈ S
  nb : ∀ m, m < i → ∀ e : C2, ((d.1 : Int) + (nxt m).1 = (e.1 : Int)) → ((d.2 : Int) + (nxt m).2 = (e.2 : Int)) → Fr rs e → e ∈ S
theorem tg_few {rs : Fl} {w : Nat} (ok : OkF rs w) {c : C2} (hc : Fr rs c) {S : List C2} (nd : S.Nodup) (con : ∀ d ∈ S, Con rs c d) : S.length ≤ 36 := by
  have n6 := ok.n6
  have w6 := ok.w6
  have h := nodup_lenG S (clsL 6 6) nd fun d m => by
    have := fre_in ok ((con d m).free hc)
    exact mem_cls.mpr ⟨by omega, by omega⟩
  exact Nat.le_trans h (by decide)
theorem adj_nxt {d e : C2} (h : Adj d e) : ∃ m, m < 4 ∧ (d.1 : Int) + (nxt m).1 = (e.1 : Int) ∧ (d.2 : Int) + (nxt m).2 = (e.2 : Int) := by
  rcases h with ⟨h1, h2 | h2⟩ | ⟨h1, h2 | h2⟩
  · exact ⟨2, by decide, by show (d.1 : Int) + 0 = _; omega, by show (d.2 : Int) + 1 = _; omega⟩
  · exact ⟨1, by decide, by show (d.1 : Int) + 0 = _; omega, by show (d.2 : Int) + -1 = _; omega⟩
  · exact ⟨3, by decide, by show (d.1 : Int) + 1 = _; omega, by show (d.2 : Int) + 0 = _; omega⟩
  · exact ⟨0, by decide, by show (d.1 : Int) + -1 = _; omega, by show (d.2 : Int) + 0 = _; omega⟩
theorem nxt_adj {d e : C2} {m : Nat} (h1 : (d.1 : Int) + (nxt m).1 = (e.1 : Int)) (h2 : (d.2 : Int) + (nxt m).2 = (e.2 : Int)) : Adj d e := by
  unfold nxt at h1 h2
  unfold Adj
  split at h1 <;> simp only [] at h1 h2 <;> omega
theorem Tm.skip {rs : Fl} {c d : C2} {i : Nat} {S W : List C2} (t : Tm rs c d i S W) (h : ∀ e : C2, ((d.1 : Int) + (nxt i).1 = (e.1 : Int)) → ((d.2 : Int) + (nxt i).2 = (e.2 : Int)) → Fr rs e → e ∈ S) : Tm rs c d (i + 1) S W := by
  refine ⟨t.nd, t.me, t.con, t.ws, t.dm, t.cl, fun m hm e h1 h2 f => ?_⟩
  rcases Nat.lt_or_ge m i with l | l
  · exact t.nb m l e h1 h2 f
  · have : m = i := by omega
    subst this
    exact h e h1 h2 f
theorem Tm.add {rs : Fl} {c d e : C2} {i : Nat} {S W : List C2} (t : Tm rs c d i S W) (h1 : (d.1 : Int) + (nxt i).1 = (e.1 : Int)) (h2 : (d.2 : Int) + (nxt i).2 = (e.2 : Int)) (f : Fr rs e) (n : e ∉ S) : Tm rs c d (i + 1) (S ++ [e]) (W ++ [e]) := by
  refine ⟨List.nodup_append.mpr ⟨t.nd, by simp, fun a ma b mb => ?_⟩, List.mem_append_left _ t.me, fun x m => ?_, fun x m => ?_, List.mem_append_left _ t.dm, fun x m nw nd y a fy => ?_, fun m hm y y1 y2 fy => ?_⟩
  · rw [List.mem_singleton.mp mb]
    exact fun h => n (h ▸ ma)
  · rcases List.mem_append.mp m with m | m
    · exact t.con x m
    · rw [List.mem_singleton.mp m]
      exact .step (t.con d t.dm) (nxt_adj h1 h2) f
  · rcases List.mem_append.mp m with m | m
    · exact List.mem_append_left _ (t.ws x m)
    · exact List.mem_append_right _ m
  · rcases List.mem_append.mp m with m | m
    · exact List.mem_append_left _ (t.cl x m (fun h => nw (List.mem_append_left _ h)) nd y a fy)
    · exact absurd (List.mem_append_right _ m) nw
  · rcases Nat.lt_or_ge m i with l | l
    · exact List.mem_append_left _ (t.nb m l y y1 y2 fy)
    · have : m = i := by omega
      subst this
      have : y = e := Prod.ext (by omega) (by omega)
      rw [this]
      exact List.mem_append_right _ (List.mem_singleton.mpr rfl)
theorem Tg.start {rs : Fl} {c d : C2} {S W : List C2} (t : Tg rs c S (W ++ [d])) : Tm rs c d 0 S W := by
  refine ⟨t.nd, t.me, t.con, fun x m => t.ws x (List.mem_append_left _ m), t.ws d (List.mem_append_right _ (List.mem_singleton.mpr rfl)), fun x m nw nd => t.cl x m fun h => ?_, fun m h => absurd h (Nat.not_lt_zero _)⟩
  rcases List.mem_append.mp h with h | h
  · exact nw h
  · exact nd (List.mem_singleton.mp h)
theorem Tm.done {rs : Fl} {c d : C2} {S W : List C2} (t : Tm rs c d 4 S W) : Tg rs c S W := by
  refine ⟨t.nd, t.me, t.con, t.ws, fun x m nw e a f => ?_⟩
  by_cases h : x = d
  · subst h
    obtain ⟨k, hk, h1, h2⟩ := adj_nxt a
    exact t.nb k hk e h1 h2 f
  · exact t.cl x m nw h e a f
theorem Tg.all {rs : Fl} {c : C2} {S : List C2} (t : Tg rs c S []) (d : C2) : d ∈ S ↔ Con rs c d := by
  refine ⟨t.con d, fun h => ?_⟩
  induction h with
  | base => exact t.me
  | step _ a f ih => exact t.cl _ ih List.not_mem_nil _ a f
abbrev N_Floor_p_together : List Str := ["self", "cell", "found", "waiting", "row", "column", "down", "right", "beside"]
def t_Floor_p_together (K : PySem.W.Frag) (E : XK) : TS := (tSeq (tAsg (tDispT (tVar 1) (tC (.bl true))) (gName 2)) (tSeq (tAsg (tLst (tCons (tVar 1) tNil)) (gName 3)) (tSeq (tWhile (tTru K (tVar 3)) (tSeq (tAsg (tBM0 K "list" rPop (tVar 3)) (gTup K 2 (gCons (gName 4) (gCons (gName 5) gNil)))) (tFor (iTup K (tC (.ref (He.ga K "NEXT_CELLS")))) (gTup K 2 (gCons (gName 6) (gCons (gName 7) gNil))) (tSeq (tAsg (tTup (tCons (tOp rAddI (tVar 4) (tVar 6)) (tCons (tOp rAddI (tVar 5) (tVar 7)) tNil))) (gName 8)) (tIfS (tAnd (tB (tMeth (He.ga K "Floor") "_is_free" (sp_Floor_p_is_free K) [] E0 (tVar 0) (tCons (tOp (rIxT K) (tVar 8) (tC (.int 0))) (tCons (tOp (rIxT K) (tVar 8) (tC (.int 1))) tNil)))) (tB (tDNotIn (tVar 8) (tVar 2)))) (tSeq (sDPut (tVar 2) (tVar 8) (tC (.bl true))) (tDrop (tBM K "list" rAppend (tVar 3) (tCons (tVar 8) tNil)))) tNext))))) (tRet (tVar 2)))))
theorem len_Floor_p_together {K : PySem.W.Frag} {vs : List V} {H : Hp} {Q : VK} {E : XK} (h : sp_Floor_p_together K vs H Q E) : vs.length = 2 := by
  obtain ⟨_, _, _, _, _, rfl, _⟩ := h; rfl
theorem pure_Floor_p_together {K : PySem.W.Frag} (F : FFloor K) (G : FNEXT K) (vs : List V) (H : Hp) (Q : VK) (E : XK) (h : sp_Floor_p_together K vs H Q E) : t_Floor_p_together K E { nx := fun _ H' => Q .non H', rt := Q } (start N_Floor_p_together vs) H := by
  obtain ⟨b, ca, rs, w, c, rfl, hB, ok, hca, hc, q⟩ := h
  obtain ⟨dx, t, hb, ht⟩ := id hB
  unfold t_Floor_p_together
  repeat walk_at "mst"
  refine fun D nD => ?_
  generalize hq : upd H D (.dT []) = H1
  have e1 := nx nD hq
  have s1 := nS hq
  clear hq
  have hca1 := e1 _ _ hca
  repeat walk_at "mst"
  refine ⟨ca, kC c, rfl, s1, hca1, ?_⟩
  have nDc : ca ≠ D := fun h => by rw [h, s1] at hca1; cases hca1
  have s2 : upd H1 D (HO.dT [(kC c, V.bl true)]) D = some (.dT (stC [c])) := upd_same
  have e2 : Ex H (upd H1 D (HO.dT [(kC c, V.bl true)])) := Evl.Ex.mut e1 nD
  generalize upd H1 D (HO.dT [(kC c, V.bl true)]) = H2 at *
  repeat walk_at "mst"
  walk_at "new"; rename_i wp nwp H3 e3 s3
  have e03 := e2.trans e3
  have nwp0 : H wp = none := Evl.fresh_back e2 nwp
  have dDw : D ≠ wp := ne_of_none s2 nwp
  have wc : AllAt cellsV H3 [.ref ca] [c] := .one ⟨ca, rfl, e03 _ _ hca⟩
  repeat walk_at "mst"
  refine k_while (fun m σ H' => ∃ (S W : List C2) (wl : List V) (x4 x5 x6 x7 x8 : Option V), m = 2 * (36 - S.length) + W.length ∧ Tg rs c S W ∧ Ex H H' ∧ H' D = some (.dT (stC S)) ∧ H' wp = some (.lst wl) ∧ AllAt cellsV H' wl W ∧ W.length ≤ S.length ∧
    σ = [some (.ref b), some (.ref ca), some (.ref D), some (.ref wp), x4, x5, x6, x7, x8]) _ ⟨[c], [c], [.ref ca], none, none, none, none, none, rfl, ⟨by simp, by simp, fun d m => by rw [List.mem_singleton.mp m]; exact .base, fun d m => m, fun d m n => absurd m n⟩, e03, e3 _ _ s2, s3, wc, Nat.le_refl _, rfl⟩ ?_
  rintro m σ H4 ⟨S, W, wl, x4, x5, x6, x7, x8, rfl, tg, e4, hD, hw, wa, wS, rfl⟩
  have few := tg_few ok hc tg.nd tg.con
  have wll := wa.1
  repeat walk_at "mst"
  refine tru_L (k_sq hw) ?_
  rcases List.eq_nil_or_concat W with rfl | ⟨W', d, rfl⟩
  · have : wl = [] := List.length_eq_zero_iff.mp (by rw [wll]; rfl)
    subst this
    rw [show (!([] : List V).isEmpty) = false from rfl]
    repeat walk_at "mst"
    exact q D S H4 nD e4 hD tg.nd tg.all
  · rw [List.concat_eq_append] at *
    rcases List.eq_nil_or_concat wl with rfl | ⟨wl', v, rfl⟩
    · rw [List.length_append] at wll; exact absurd wll (by show ¬ 0 = _ + 1; omega)
    rw [List.concat_eq_append] at *
    have l1 : wl'.length = W'.length := by
      rw [List.length_append, List.length_append] at wll
      have wll : wl'.length + 1 = W'.length + 1 := wll
      omega
    have tt : (!(wl' ++ [v]).isEmpty) = true := by simp
    rw [tt]
    obtain ⟨v', hv', u, eu, hu⟩ := wa.2 W'.length d (by rw [List.getElem?_append_right (Nat.le_refl _), Nat.sub_self]; rfl)
    rw [List.getElem?_append_right (by omega), l1, Nat.sub_self] at hv'
    have ev : v = v' := Option.some.inj hv'
    subst ev
    subst eu
    have wa' : AllAt cellsV H4 wl' W' := by
      have := AllAt.take wa W'.length
      rw [List.take_left' l1, List.take_left' rfl] at this
      exact this
    repeat walk_at "mst"
    refine ⟨fun σ' H' => ∃ m', m' < 2 * (36 - S.length) + (W' ++ [d]).length ∧ ∃ (S W : List C2) (wl : List V) (x4 x5 x6 x7 x8 : Option V), m' = 2 * (36 - S.length) + W.length ∧ Tg rs c S W ∧ Ex H H' ∧ H' D = some (.dT (stC S)) ∧ H' wp = some (.lst wl) ∧ AllAt cellsV H' wl W ∧ W.length ≤ S.length ∧
      σ' = [some (.ref b), some (.ref ca), some (.ref D), some (.ref wp), x4, x5, x6, x7, x8], fun σ' H' h => h, ?_⟩
    repeat walk_at "mst"
    refine k_rPop hw ?_
    have e5 : Ex H (upd H4 wp (HO.lst wl')) := Evl.Ex.mut e4 nwp0
    have s5 : upd H4 wp (HO.lst wl') wp = some (HO.lst wl') := upd_same
    have hD5 : upd H4 wp (HO.lst wl') D = some (.dT (stC S)) := by rw [upd_ne dDw]; exact hD
    have nu : u ≠ wp := fun h => by rw [h, hw] at hu; cases hu
    have hu5 : upd H4 wp (HO.lst wl') u = some (HO.tup [.int (d.1 : Int), .int (d.2 : Int)]) := by rw [upd_ne nu]; exact hu
    have wa5 : AllAt cellsV (upd H4 wp (HO.lst wl')) wl' W' := wa'.imp fun y c q => q.keep fun a o z n => (upd_ne fun e => n _ (by rw [e, hw] at z; exact (Option.some.inj z).symm)).trans z
    generalize upd H4 wp (HO.lst wl') = H5 at *
    have W'S : W'.length + 1 ≤ S.length := by rw [List.length_append] at wS; exact wS
    repeat walk_at "mst"
    refine k_gtup (k_st hu5) rfl ?_
    repeat walk_at "mst"
    refine ⟨_, rfl, ⟨_, G.tu.1 H5⟩, forK_tup (xs := (List.range 4).map fun i => V.ref (itA K (He.ga K "NEXT_CELLS") i)) (fun i σ' H' => ∃ (S2 W2 : List C2) (wl2 : List V) (x6 x7 x8 : Option V), Tm rs c d i S2 W2 ∧ 2 * (36 - S2.length) + W2.length ≤ 2 * (36 - S.length) + W'.length ∧ Ex H H' ∧ H' D = some (.dT (stC S2)) ∧ H' wp = some (.lst wl2) ∧ AllAt cellsV H' wl2 W2 ∧ W2.length + 1 ≤ S2.length ∧ σ' = [some (.ref b), some (.ref ca), some (.ref D), some (.ref wp), some (.int (d.1 : Int)), some (.int (d.2 : Int)), x6, x7, x8]) ⟨S, W', wl', x6, x7, x8, tg.start, Nat.le_refl _, e5, hD5, s5, wa5, W'S, rfl⟩ ?_ ?_ ?_⟩
    · rintro i σ' H' _ _; exact G.tu.1 H'
    · rintro i x σ' H6 hx ⟨S2, W2, wl2, y6, y7, y8, tm, ms, e6, hD6, hw6, wa6, wS6, rfl⟩
      rw [List.getElem?_map] at hx
      have hi : i < 4 := by
        refine Classical.byContradiction fun n => ?_
        rw [List.getElem?_eq_none_iff.mpr (by rw [List.length_range]; omega)] at hx
        cases hx
      rw [List.getElem?_range hi] at hx
      cases hx
      have few2 := tg_few ok hc tm.nd tm.con
      have wl2l := wa6.1
      have nx2 : ([[.int (-1), .int 0], [.int 0, .int (-1)], [.int 0, .int 1], [.int 1, .int 0]] : List (List V)).getD i [] = [.int (nxt i).1, .int (nxt i).2] := by
        rcases (show i = 0 ∨ i = 1 ∨ i = 2 ∨ i = 3 by omega) with rfl | rfl | rfl | rfl <;> rfl
      have gi := G.tu.2 i hi H6
      rw [nx2] at gi
      refine k_gtup gi rfl ?_
      have hB6 := hB.ex e6
      have hb6 := e6 _ _ hb
      repeat walk_at "mst"
      walk_at "new"; rename_i bp nbp H7 e7 s7
      have hB7 := hB6.ex e7
      have hb7 := e7 _ _ hb6
      have hD7 := e7 _ _ hD6
      have hw7 := e7 _ _ hw6
      have wa7 := wa6.imp fun y c q => q.keep fun a o z _ => e7 _ _ z
      repeat walk_at "mst"
      refine ⟨b, dx, _, rfl, hb7, gfl_no _ (by decide +kernel), ?_⟩
      repeat walk_at "mst"
      refine use_freeZ hB7 ok ?_
      cases hz : freZ rs ((d.1 : Int) + (nxt i).1) ((d.2 : Int) + (nxt i).2)
      · have sk : Tm rs c d (i + 1) S2 W2 := tm.skip fun e h1 h2 f => by
          rw [h1, h2, freZ_nat] at hz
          have f : fre rs e.1 e.2 = true := f
          rw [f] at hz; cases hz
        repeat walk_at "mst"
        exact ⟨S2, W2, wl2, _, _, _, sk, ms, e6.trans e7, hD7, hw7, wa7, wS6, rfl⟩
      · have hz' := hz
        unfold freZ at hz'
        rw [Bool.and_eq_true, Bool.and_eq_true, decide_eq_true_iff, decide_eq_true_iff] at hz'
        obtain ⟨e, h1, h2⟩ : ∃ e : C2, (d.1 : Int) + (nxt i).1 = (e.1 : Int) ∧ (d.2 : Int) + (nxt i).2 = (e.2 : Int) := ⟨(((d.1 : Int) + (nxt i).1).toNat, ((d.2 : Int) + (nxt i).2).toNat), by show _ = ((Int.toNat _ : Nat) : Int); omega, by show _ = ((Int.toNat _ : Nat) : Int); omega⟩
        rw [h1, h2, freZ_nat] at hz
        have fe : Fr rs e := hz
        rw [h1, h2] at s7
        repeat walk_at "mst"
        refine ⟨D, _, rfl, DGet.t (k := kC e) hD7 s7, ?_⟩
        rw [stC_val]
        refine ⟨_, rfl, ?_⟩
        by_cases me : e ∈ S2
        · rw [decide_eq_true me]
          have sk : Tm rs c d (i + 1) S2 W2 := tm.skip fun e' g1 g2 f => by
            have : e' = e := Prod.ext (by omega) (by omega)
            rw [this]; exact me
          repeat walk_at "mst"
          exact ⟨S2, W2, wl2, _, _, _, sk, ms, e6.trans e7, hD7, hw7, wa7, wS6, rfl⟩
        · rw [decide_eq_false me]
          have ad := tm.add h1 h2 fe me
          have few3 := tg_few ok hc ad.nd ad.con
          rw [List.length_append] at few3
          have few3 : S2.length + 1 ≤ 36 := few3
          rw [if_pos (show (!false) = true from rfl)]
          repeat walk_at "mst"
          refine ⟨D, _, rfl, DPut.t (k := kC e) hD7 s7 (fits' (by rw [stC_len]; omega)), ?_⟩
          rw [stC_put me]
          have nbD : bp ≠ D := fun h => by rw [h, hD7] at s7; cases s7
          have hw8 : upd H7 D (HO.dT (stC (S2 ++ [e]))) wp = some (.lst wl2) := (upd_ne dDw.symm).trans hw7
          have hD8 : upd H7 D (HO.dT (stC (S2 ++ [e]))) D = some (.dT (stC (S2 ++ [e]))) := upd_same
          have e8 : Ex H (upd H7 D (HO.dT (stC (S2 ++ [e])))) := Evl.Ex.mut (e6.trans e7) nD
          have s8 : upd H7 D (HO.dT (stC (S2 ++ [e]))) bp = some (.tup [.int (e.1 : Int), .int (e.2 : Int)]) := (upd_ne nbD).trans s7
          have wa8 : AllAt cellsV (upd H7 D (HO.dT (stC (S2 ++ [e])))) wl2 W2 := wa7.imp fun y c q => by
            obtain ⟨a, r, z⟩ := q
            have z : H7 a = some (.tup [.int (c.1 : Int), .int (c.2 : Int)]) := z
            have na : a ≠ D := fun h => by rw [h, hD7] at z; cases z
            exact ⟨a, r, (upd_ne na).trans z⟩
          generalize upd H7 D (HO.dT (stC (S2 ++ [e]))) = H8 at *
          repeat walk_at "mst"
          · exact fits' (by omega)
          have nbw : bp ≠ wp := fun h => by rw [h, hw8] at s8; cases s8
          refine ⟨S2 ++ [e], W2 ++ [e], wl2 ++ [.ref bp], _, _, _, ad, ?_, Evl.Ex.mut e8 nwp0, (upd_ne dDw).trans hD8, upd_same, ?_, ?_, rfl⟩
          · rw [List.length_append, List.length_append]
            show 2 * (36 - (S2.length + 1)) + (W2.length + 1) ≤ _
            omega
          · refine AllAt.snoc2 ?_ ⟨bp, rfl, (upd_ne nbw).trans s8⟩
            exact wa8.imp fun y c q => q.keep fun a o z n => (upd_ne fun e => n _ (by rw [e, hw8] at z; exact (Option.some.inj z).symm)).trans z
          · rw [List.length_append, List.length_append]
            show W2.length + 1 + 1 ≤ S2.length + 1
            omega
    · rintro σ' H6 ⟨S2, W2, wl2, y6, y7, y8, tm, ms, e6, hD6, hw6, wa6, wS6, rfl⟩
      refine ⟨2 * (36 - S2.length) + W2.length, by rw [List.length_append]; show _ < _ + (_ + 1); omega, S2, W2, wl2, _, _, _, _, _, rfl, tm.done, e6, hD6, hw6, wa6, by omega, rfl⟩
theorem use_ftogether {K : PySem.W.Frag} {H : Hp} {Q : VK} {E : XK} {b ca : Addr} {rs : Fl} {w : Nat} {c : C2} (hB : FlAt K H b rs) (ok : OkF rs w) (hca : H ca = some (.tup [.int (c.1 : Int), .int (c.2 : Int)])) (hc : Fr rs c) (q : ∀ D S H', H D = none → Ex H H' → H' D = some (.dT (stC S)) → S.Nodup → (∀ d, d ∈ S ↔ Con rs c d) → Q (.ref D) H') : sp_Floor_p_together K (.ref b :: ([.ref ca] ++ [])) H Q E := ⟨b, ca, rs, w, c, rfl, hB, ok, hca, hc, q⟩
def sp_rectangle (K : PySem.W.Frag) : Sp := fun vs H Q _ => ∃ (D : Addr) (S : List C2), vs = [.ref D] ∧ H D = some (.dT (stC S)) ∧ S ≠ [] ∧ (∀ c ∈ S, c.1 < 6 ∧ c.2 < 6) ∧ S.length ≤ 36 ∧ ∀ x H', H x = none → Ex H H' → FlAt K H' x (clip S) → Q (.ref x) H'
local macro_rules | `(tactic| walk_at "new") => `(tactic| ((first | refine ⟨fits (Nat.le_of_ble_eq_true rfl), ?_⟩ | skip); intro p np; generalize hq : upd _ p _ = H1; have e1 := nx np hq; have s1 := nS hq; clear hq))
def fstK : List Key → Option V
  | Sum.inl i :: _ => some (.int i)
  | _ => none
def sndK : List Key → Option V
  | _ :: Sum.inl i :: _ => some (.int i)
  | _ => none
theorem fst_list (S : List C2) : ((stC S).filterMap fun e => fstK e.1) = (castL (rwN S)).map V.int := by
  unfold stC castL rwN
  rw [List.filterMap_map, List.map_map, List.map_map, ← List.filterMap_eq_map]
  rfl
theorem snd_list (S : List C2) : ((stC S).filterMap fun e => sndK e.1) = (castL (clN S)).map V.int := by
  unfold stC castL clN
  rw [List.filterMap_map, List.map_map, List.map_map, ← List.filterMap_eq_map]
  rfl
theorem k_lock {t : TS} {D : Ends} {σ : L2.St} {H : Hp} (q : ∃ d u, H d = some u ∧ Mut (some u) ∧ ∀ od, t ⟨fun σ' H' => H' d = some (.frz od u) ∧ D.nx σ' (upd H' d u), fun v H' => H' d = some (.frz od u) ∧ D.rt v (upd H' d u), fun σ' H' => H' d = some (.frz od u) ∧ D.bk σ' (upd H' d u), fun σ' H' => H' d = some (.frz od u) ∧ D.ct σ' (upd H' d u)⟩ σ (upd H d (.frz od u))) : tLock t D σ H := q
theorem k_ikeys {td : TE} {σ : L2.St} {H : Hp} {R : It → Hp → Prop} (q : td σ H fun x H1 => ∃ d o, x = .ref d ∧ ((∃ kvs, H1 d = some (.frz o (.dK kvs)) ∧ R (Itk d o kvs) H1) ∨ ∃ kvs, H1 d = some (.frz o (.dT kvs)) ∧ R (Itkt d o kvs) H1)) : iKeys td σ H R := q
theorem stC_at {S : List C2} {i : Nat} {k : List Key} {v : V} (h : (stC S)[i]? = some (k, v)) : ∃ c, S[i]? = some c ∧ k = kC c := by
  unfold stC at h
  rw [List.getElem?_map] at h
  cases hc : S[i]? with
  | none => rw [hc] at h; cases h
  | some c => rw [hc] at h; cases h; exact ⟨c, rfl, rfl⟩
abbrev N_rectangle : List Str := ["cells", "rows", "row", "_", "columns", "column", "found", "signs"]
def t_rectangle (K : PySem.W.Frag) (E : XK) : TS := (tSeq (tLock (tAsg (tLc (iKeys (tVar 0)) (gTup K 2 (gCons (gName 2) (gCons (gName 3) gNil))) tYes (tVar 2) [2, 3]) (gName 1))) (tSeq (tLock (tAsg (tLc (iKeys (tVar 0)) (gTup K 2 (gCons (gName 3) (gCons (gName 5) gNil))) tYes (tVar 5) [3, 5]) (gName 4))) (tSeq (tAsg (tLst tNil) (gName 6)) (tSeq (tFor (iRng2 (tCons (tCB (rMin K) (tCons (tVar 1) tNil)) (tCons (tOp rAddI (tCB (rMax K) (tCons (tVar 1) tNil)) (tC (.int 1))) tNil))) (gName 2) (tSeq (tAsg (tLc (iRng2 (tCons (tCB (rMin K) (tCons (tVar 4) tNil)) (tCons (tOp rAddI (tCB (rMax K) (tCons (tVar 4) tNil)) (tC (.int 1))) tNil))) (gName 5) tYes (tIf (tB (tDIn (tTup (tCons (tVar 2) (tCons (tVar 5) tNil))) (tVar 0))) (tC (.str ".")) (tC (.str "#"))) [5]) (gName 7)) (tDrop (tBM K "list" rAppend (tVar 6) (tCons (tBM K "str" (rJoinS K) (tC (.str "")) (tCons (tVar 7) tNil)) tNil))))) (tRet (tMake (He.ga K "Floor") (sp_Floor_d_init K) [] E0 (tCons (tVar 6) tNil)))))))
theorem len_rectangle {K : PySem.W.Frag} {vs : List V} {H : Hp} {Q : VK} {E : XK} (h : sp_rectangle K vs H Q E) : vs.length = 1 := by
  obtain ⟨_, _, rfl, _⟩ := h; rfl
theorem pure_rectangle {K : PySem.W.Frag} (vs : List V) (H : Hp) (Q : VK) (E : XK) (h : sp_rectangle K vs H Q E) : t_rectangle K E { nx := fun _ H' => Q .non H', rt := Q } (start N_rectangle vs) H := by
  obtain ⟨D, S, rfl, hD, ne, six, few, q⟩ := h
  have bx := box ne
  have sl := stC_len S
  unfold t_rectangle
  repeat walk_at "mst"
  refine k_lock ⟨D, _, hD, trivial, fun od => ?_⟩
  repeat walk_at "mst"
  refine k_ikeys ?_
  repeat walk_at "mst"
  refine ⟨D, od, rfl, Or.inr ⟨stC S, upd_same, lcR_keysT fstK upd_same (fits' (by omega)) (fun i k v u H' hk e hu => ?_) fun L H1 nL e1 hL => ?_⟩⟩
  · intro H'' e'' RR rr
    obtain ⟨c, _, rfl⟩ := stC_at hk
    have hu'' : H'' u = some (.tup [.int (c.1 : Int), .int (c.2 : Int)]) := e'' _ _ hu
    have rr := rr _ (Evl.Ex.refl _)
    refine k_gtup (k_st hu'') rfl ?_
    repeat walk_at "mst"
    refine ⟨rfl, ?_⟩
    unfold tYes
    repeat walk_at "mst"
    exact rr
  rw [fst_list] at hL
  have nLD : L ≠ D := fun h => by rw [h, upd_same] at nL; cases nL
  have hL1 : upd H1 D (HO.dT (stC S)) L = some (.lst ((castL (rwN S)).map V.int)) := (upd_ne nLD).trans hL
  have e1' := lock_ex hD e1
  have hfz : H1 D = some (.frz od (.dT (stC S))) := e1 _ _ upd_same
  repeat walk_at "mst"
  refine ⟨hfz, ?_⟩
  have hD1 : upd H1 D (HO.dT (stC S)) D = some (.dT (stC S)) := upd_same
  generalize upd H1 D (HO.dT (stC S)) = H2 at *
  clear hfz nLD hL nL e1
  repeat walk_at "mst"
  refine k_lock ⟨D, _, hD1, trivial, fun od => ?_⟩
  repeat walk_at "mst"
  refine k_ikeys ?_
  repeat walk_at "mst"
  refine ⟨D, od, rfl, Or.inr ⟨stC S, upd_same, lcR_keysT sndK upd_same (fits' (by omega)) (fun i k v u H' hk e hu => ?_) fun M H3 nM e3 hM => ?_⟩⟩
  · intro H'' e'' RR rr
    obtain ⟨c, _, rfl⟩ := stC_at hk
    have hu'' : H'' u = some (.tup [.int (c.1 : Int), .int (c.2 : Int)]) := e'' _ _ hu
    have rr := rr _ (Evl.Ex.refl _)
    refine k_gtup (k_st hu'') rfl ?_
    repeat walk_at "mst"
    refine ⟨rfl, ?_⟩
    unfold tYes
    repeat walk_at "mst"
    exact rr
  rw [snd_list] at hM
  have nMD : M ≠ D := fun h => by rw [h, upd_same] at nM; cases nM
  have hM3 : upd H3 D (HO.dT (stC S)) M = some (.lst ((castL (clN S)).map V.int)) := (upd_ne nMD).trans hM
  have e3' := lock_ex hD1 e3
  have hL3 := e3' _ _ hL1
  have hfz : H3 D = some (.frz od (.dT (stC S))) := e3 _ _ upd_same
  repeat walk_at "mst"
  refine ⟨hfz, ?_⟩
  have hD3 : upd H3 D (HO.dT (stC S)) D = some (.dT (stC S)) := upd_same
  generalize upd H3 D (HO.dT (stC S)) = H4 at *
  clear hfz nMD hM nM e3
  repeat walk_at "mst"
  walk_at "new"; rename_i fp nfp H5 e5 s5
  have hL5 := e5 _ _ hL3
  have hM5 := e5 _ _ hM3
  have hD5 := e5 _ _ hD3
  have e05 := (e1'.trans e3').trans e5
  have nfp0 : H fp = none := Evl.fresh_back (e1'.trans e3') nfp
  have nLf : L ≠ fp := ne_of_none hL3 nfp
  have nMf : M ≠ fp := ne_of_none hM3 nfp
  have nDf : D ≠ fp := ne_of_none hD3 nfp
  obtain ⟨cr, mcr, ecr⟩ := bx.rh
  obtain ⟨cc, mcc, ecc⟩ := bx.ch
  have x1 := six cr mcr
  have x2 := six cc mcc
  have y1 := bx.r1 cr mcr
  have y2 := bx.c1 cc mcc
  have hh : ((hiN (rwN S) : Int) + 1 - (loN (rwN S) : Int)).toNat = hgt S := by unfold hgt; omega
  have ww : ((hiN (clN S) : Int) + 1 - (loN (clN S) : Int)).toNat = wdt S := by unfold wdt; omega
  have h6 : hgt S ≤ 6 := by unfold hgt; omega
  have w6 : wdt S ≤ 6 := by unfold wdt; omega
  have pl : 0 < S.length := List.length_pos_iff.mpr ne
  have l1 : 0 < (castL (rwN S)).length := by rw [castL_len]; unfold rwN; rw [List.length_map]; exact pl
  have l2 : 0 < (castL (clN S)).length := by rw [castL_len]; unfold clN; rw [List.length_map]; exact pl
  have rmin : ∀ {P : Addr} {l : List Nat} {H : Hp} {Q : VK}, H P = some (.lst ((castL l).map V.int)) → 0 < (castL l).length → Q (.int (loN l : Int)) H → rMin K [.ref P] H Q := fun h l q => ⟨_, _, rfl, k_sq h, l, fun m hm mm => by rw [cast_lo hm mm]; exact q⟩
  have rmax : ∀ {P : Addr} {l : List Nat} {H : Hp} {Q : VK}, H P = some (.lst ((castL l).map V.int)) → 0 < (castL l).length → Q (.int (hiN l : Int)) H → rMax K [.ref P] H Q := fun h l q => ⟨_, _, rfl, k_sq h, l, fun m hm mm => by rw [cast_hi hm mm]; exact q⟩
  repeat walk_at "mst"
  refine rmin hL5 l1 ?_
  repeat walk_at "mst"
  first | refine rmax hL5 l1 ?_ | skip
  repeat walk_at "mst"
  refine ⟨_, _, rfl, ⟨by omega, by omega, by omega, by omega⟩, ?_⟩
  rw [hh]
  refine for_range (lo := (loN (rwN S) : Int)) (n := hgt S) (fun i σ H' => ∃ (x2 x3 x5 x7 : Option V), (∀ c o, H5 c = some o → c ≠ fp → H' c = some o) ∧ H' fp = some (.lst ((List.range i).map fun i => V.str (tx (rowC S i)))) ∧ σ = [some (.ref D), some (.ref L), x2, x3, some (.ref M), x5, some (.ref fp), x7]) ⟨_, _, _, _, fun c o z _ => z, s5, rfl⟩ ?_ ?_
  · rintro i σ H6 hi ⟨x2, x3, x5, x7, kp, hf6, rfl⟩
    have hM6 := kp _ _ hM5 nMf
    have hD6 := kp _ _ hD5 nDf
    repeat walk_at "mst"
    refine rmin hM6 l2 ?_
    repeat walk_at "mst"
    first | refine rmax hM6 l2 ?_ | skip
    repeat walk_at "mst"
    refine ⟨_, _, rfl, ⟨by omega, by omega, by omega, by omega⟩, ?_⟩
    rw [ww]
    refine lcR_rngLo (fun j => some (V.str (tx [if (loN (rwN S) + i, loN (clN S) + j) ∈ S then 46 else 35]))) (fits' (by omega)) (fun j hj => ?_) fun G H7 nG e7 hG => ?_
    · intro H'' e'' RR rr
      have hD'' := e'' _ _ hD6
      repeat walk_at "mst"
      refine ⟨rfl, ?_⟩
      unfold tYes
      repeat walk_at "mst"
      walk_at "new"; rename_i tp ntp H8 e8 s8
      have rr := rr _ e8
      rw [show (loN (rwN S) : Int) + (i : Int) = ((loN (rwN S) + i : Nat) : Int) by omega, show (loN (clN S) : Int) + (j : Int) = ((loN (clN S) + j : Nat) : Int) by omega] at s8
      repeat walk_at "mst"
      refine ⟨D, _, rfl, DGet.t (k := kC (loN (rwN S) + i, loN (clN S) + j)) (e8 _ _ hD'') s8, ?_⟩
      rw [stC_val]
      refine ⟨_, rfl, ?_⟩
      by_cases m : (loN (rwN S) + i, loN (clN S) + j) ∈ S
      · rw [if_pos m] at rr
        rw [if_pos (decide_eq_true m)]
        repeat walk_at "mst"
        exact rr
      · rw [if_neg m] at rr
        rw [if_neg (by simpa using m)]
        repeat walk_at "mst"
        exact rr
    have eg : (List.range (wdt S)).filterMap (fun j => some (V.str (tx [if (loN (rwN S) + i, loN (clN S) + j) ∈ S then 46 else 35]))) = (rowC S i).map fun c => V.str (tx [c]) := by
      unfold rowC
      rw [List.map_map, ← List.filterMap_eq_map]
      rfl
    rw [eg] at hG
    have hf7 := e7 _ _ hf6
    repeat walk_at "mst"
    refine ⟨rfl, ?_⟩
    repeat walk_at "mst"
    refine k_joinX (l := rowC S i) (k_sq hG) (by unfold rowC; rw [List.length_map, List.length_range]; omega) ?_
    repeat walk_at "mst"
    · rw [List.length_map, List.length_range]; exact fits' (by omega)
    refine ⟨_, _, _, _, fun c o z n => (upd_ne n).trans (e7 _ _ (kp c o z n)), ?_, rfl⟩
    rw [upd_same, List.range_succ, List.map_append]
    rfl
  · rintro σ H6 ⟨x2, x3, x5, x7, kp, hf6, rfl⟩
    rw [← clip_rows_V] at hf6
    have e06 : Ex H H6 := fun c o z => kp c o (e05 _ _ z) (ne_of_none z nfp0)
    repeat walk_at "mst"
    refine mk_fl (k_sq hf6) (clip_ok ne six) fun x H7 nx_ e7 hX => ?_
    exact q x H7 (Evl.fresh_back e06 nx_) (e06.trans e7) hX
theorem use_rectangle {K : PySem.W.Frag} {H : Hp} {Q : VK} {E : XK} {D : Addr} {S : List C2} (hD : H D = some (.dT (stC S))) (ne : S ≠ []) (six : ∀ c ∈ S, c.1 < 6 ∧ c.2 < 6) (few : S.length ≤ 36) (q : ∀ x H', H x = none → Ex H H' → FlAt K H' x (clip S) → Q (.ref x) H') : sp_rectangle K ([.ref D] ++ []) H Q E := ⟨D, S, rfl, hD, ne, six, few, q⟩
def sp_Floor_m_parts (K : PySem.W.Frag) : Sp := fun vs H Q _ => ∃ (b : Addr) (rs : Fl) (w : Nat), vs = [.ref b] ∧ FlAt K H b rs ∧ OkF rs w ∧ ∀ p ys H', H p = none → Ex H H' → H' p = some (.lst ys) → BsL K H' ys (partsF rs w) → Q (.ref p) H'
local macro_rules | `(tactic| walk_at "mlk") => `(tactic| exact gfl_get _)
local macro_rules | `(tactic| walk_at "new") => `(tactic| ((first | refine ⟨fits (Nat.le_of_ble_eq_true rfl), ?_⟩ | skip); intro p np; generalize hq : upd _ p _ = H1; have e1 := nx np hq; have s1 := nS hq; clear hq))
/-- what never changes -/
def FxL : HO → Prop
  | .tup _ => True
  | .ins _ _ _ => True
  | _ => False
theorem FlAt.fx {K : PySem.W.Frag} {H H' : Hp} {b : Addr} {l : Fl} (h : FlAt K H b l) (k : ∀ c o, H c = some o → FxL o → H' c = some o) : FlAt K H' b l :=
  let ⟨dx, t, h1, h2⟩ := h; ⟨dx, t, k _ _ h1 True.intro, k _ _ h2 True.intro⟩
theorem FlV.fx {K : PySem.W.Frag} {H H' : Hp} {y : V} {l : Fl} (h : FlV K H y l) (k : ∀ c o, H c = some o → FxL o → H' c = some o) : FlV K H' y l := let ⟨b, r, z⟩ := h; ⟨b, r, z.fx k⟩
theorem bigS_snoc (L : List (List C2)) (S : List C2) : bigS (L ++ [S]) = bigS L ++ (if 1 < S.length then [clip S] else []) := by
  unfold bigS
  rw [List.filter_append, List.map_append, List.filter_cons]
  by_cases h : 1 < S.length
  · rw [if_pos h, if_pos (decide_eq_true h)]; rfl
  · rw [if_neg h, if_neg (by simpa using h)]; rfl
theorem bigS_len (L : List (List C2)) : (bigS L).length ≤ L.length := by
  unfold bigS
  rw [List.length_map]
  exact List.length_filter_le _ _
theorem pf_len (rs : Fl) (w : Nat) (l : List C2) : (pfTo rs w l).1.length ≤ l.length := by
  have key : ∀ (l : List C2) (acc : List (List C2) × List C2), (l.foldl (pfStep rs w) acc).1.length ≤ acc.1.length + l.length := by
    intro l
    induction l with
    | nil => intro acc; exact Nat.le_refl _
    | cons c l ih =>
      intro acc
      rw [List.foldl_cons, List.length_cons]
      have h := ih (pfStep rs w acc c)
      have h2 : (pfStep rs w acc c).1.length ≤ acc.1.length + 1 := by
        unfold pfStep
        split
        · rw [List.length_append, List.length_singleton]; exact Nat.le_refl _
        · omega
      omega
  have h : (l.foldl (pfStep rs w) ([], [])).1.length ≤ 0 + l.length := key l ([], [])
  unfold pfTo
  omega
abbrev N_Floor_m_parts : List Str := ["self", "found", "seen", "row", "column", "together", "cell"]
def t_Floor_m_parts (K : PySem.W.Frag) (E : XK) : TS := (tSeq (tAsg (tLst tNil) (gName 1)) (tSeq (tAsg tDNewT (gName 2)) (tSeq (tFor (iList K (tMeth (He.ga K "Floor") "_cells" (sp_Floor_p_cells K) [] E0 (tVar 0) tNil)) (gTup K 2 (gCons (gName 3) (gCons (gName 4) gNil))) (tIfS (tAnd (tB (tMeth (He.ga K "Floor") "_is_free" (sp_Floor_p_is_free K) [] E0 (tVar 0) (tCons (tVar 3) (tCons (tVar 4) tNil)))) (tB (tDNotIn (tTup (tCons (tVar 3) (tCons (tVar 4) tNil))) (tVar 2)))) (tSeq (tAsg (tMeth (He.ga K "Floor") "_together" (sp_Floor_p_together K) [] E0 (tVar 0) (tCons (tTup (tCons (tVar 3) (tCons (tVar 4) tNil))) tNil)) (gName 5)) (tSeq (tLock (tFor (iKeys (tVar 5)) (gName 6) (sDPut (tVar 2) (tVar 6) (tC (.bl true))))) (tIfS (tTest (tOp rGtI (tCB rLenT (tCons (tVar 5) tNil)) (tC (.int 1)))) (tDrop (tBM K "list" rAppend (tVar 1) (tCons (tCall (sp_rectangle K) [] E0 (tCons (tVar 5) tNil)) tNil))) tNext))) tNext)) (tRet (tVar 1)))))
theorem len_Floor_m_parts {K : PySem.W.Frag} {vs : List V} {H : Hp} {Q : VK} {E : XK} (h : sp_Floor_m_parts K vs H Q E) : vs.length = 1 := by
  obtain ⟨_, _, _, rfl, _⟩ := h; rfl
theorem pure_Floor_m_parts {K : PySem.W.Frag} (F : FFloor K) (vs : List V) (H : Hp) (Q : VK) (E : XK) (h : sp_Floor_m_parts K vs H Q E) : t_Floor_m_parts K E { nx := fun _ H' => Q .non H', rt := Q } (start N_Floor_m_parts vs) H := by
  obtain ⟨b, rs, w, rfl, hB, ok, q⟩ := h
  obtain ⟨dx, t, hb, ht⟩ := id hB
  have n6 := ok.n6
  have w6 := ok.w6
  unfold t_Floor_m_parts
  repeat walk_at "mst"
  walk_at "new"; rename_i fp nfp H1 e1 s1
  repeat walk_at "mst"
  refine fun E' nE => ?_
  generalize hq : upd H1 E' (.dT []) = H2
  have e2 := nx nE hq
  have s2 := nS hq
  clear hq
  have e02 := e1.trans e2
  have hf2 := e2 _ _ s1
  have hb2 := e02 _ _ hb
  have nE0 : H E' = none := Evl.fresh_back e1 nE
  have nfE : fp ≠ E' := ne_of_none s1 nE
  repeat walk_at "mst"
  refine ⟨b, dx, _, rfl, hb2, gfl_no _ (by decide +kernel), ?_⟩
  repeat walk_at "mst"
  refine use_cells (hB.ex e02) ok fun C cs H3 nC e3 hC ac => ?_
  have ac : AllAt cellsV H3 cs (clsL rs.length w) := ac
  have hf3 := e3 _ _ hf2
  have hE3 := e3 _ _ s2
  have nCf : C ≠ fp := fun h => by rw [h, hf2] at nC; cases nC
  have nCE : C ≠ E' := fun h => by rw [h, s2] at nC; cases nC
  have cl36 : (clsL rs.length w).length ≤ 36 := by
    have := nodup_lenG _ (clsL 6 6) (cls_nodup rs.length w) fun c m => by
      have := mem_cls.mp m
      exact mem_cls.mpr ⟨by omega, by omega⟩
    exact Nat.le_trans this (by decide)
  have csl := ac.1
  refine ⟨C, rfl, ⟨_, k_sq hC⟩, forK_list (xs := cs) (fun k σ H' => ∃ (zs : List V) (Sn : List C2) (x3 x4 x5 x6 : Option V), (∀ c o, H3 c = some o → c ≠ fp → c ≠ E' → H' c = some o) ∧ H' fp = some (.lst zs) ∧ H' E' = some (.dT (stC Sn)) ∧ Sn.Nodup ∧ (∀ d, d ∈ Sn ↔ d ∈ (pfTo rs w ((clsL rs.length w).take k)).2) ∧ BsL K H' zs (bigS (pfTo rs w ((clsL rs.length w).take k)).1) ∧ σ = [some (.ref b), some (.ref fp), some (.ref E'), x3, x4, x5, x6]) ⟨[], [], none, none, none, none, fun _ _ h _ _ => h, hf3, hE3, List.nodup_nil, fun d => Iff.rfl, .nil, rfl⟩ ?_ ?_ ?_⟩
  · rintro k σ H' _ ⟨zs, Sn, x3, x4, x5, x6, kp, _⟩; exact k_sq (kp _ _ hC nCf nCE)
  · rintro k x σ H4 hx ⟨zs, Sn, x3, x4, x5, x6, kp, hf4, hE4, nd, mem, bs, rfl⟩
    have hk := (List.getElem?_eq_some_iff.mp hx).1
    have hc : (clsL rs.length w)[k]? = some ((clsL rs.length w)[k]'(by omega)) := List.getElem?_eq_getElem _
    have tk : (clsL rs.length w).take (k + 1) = (clsL rs.length w).take k ++ [(clsL rs.length w)[k]'(by omega)] := by rw [List.take_add_one, hc]; rfl
    obtain ⟨y, hy, a, rfl, ha⟩ := ac.2 k _ hc
    rw [hx] at hy
    cases hy
    rw [tk, pf_snoc]
    generalize (clsL rs.length w)[k]'(by omega) = c at *
    have o := pf_ok ok ((clsL rs.length w).take k)
    have o2 := pf_ok ok ((clsL rs.length w).take k ++ [c])
    rw [pf_snoc] at o2
    have pl := pf_len rs w ((clsL rs.length w).take k)
    rw [List.length_take] at pl
    have zl : zs.length ≤ 36 := by
      have := bs.1
      have := bigS_len (pfTo rs w ((clsL rs.length w).take k)).1
      omega
    generalize pfTo rs w ((clsL rs.length w).take k) = acc at *
    have naf : a ≠ fp := fun h => by rw [h, hf3] at ha; cases ha
    have naE : a ≠ E' := fun h => by rw [h, hE3] at ha; cases ha
    have ha4 : H4 a = some (.tup [.int (c.1 : Int), .int (c.2 : Int)]) := kp _ _ ha naf naE
    have kpH : Ex H H4 := fun z o q => kp z o (e3 _ _ (e02 _ _ q)) (ne_of_none q nfp) (ne_of_none q nE0)
    have hB4 := hB.ex kpH
    have hb4 := kpH _ _ hb
    refine k_gtup (k_st ha4) rfl ?_
    repeat walk_at "mst"
    refine ⟨b, dx, _, rfl, hb4, gfl_no _ (by decide +kernel), ?_⟩
    repeat walk_at "mst"
    refine use_free hB4 ok ?_
    cases hz : fre rs c.1 c.2
    · rw [pf_skip (fun z => by rw [hz] at z; exact absurd z.1 (by decide))]
      repeat walk_at "mst"
      exact ⟨zs, Sn, _, _, _, _, kp, hf4, hE4, nd, mem, bs, rfl⟩
    · repeat walk_at "mst"
      walk_at "new"; rename_i u nu H5 e5 s5
      have hE5 := e5 _ _ hE4
      have hf5 := e5 _ _ hf4
      have hB5 := hB4.ex e5
      have hb5 := e5 _ _ hb4
      have bs5 := bs.imp fun y c q => q.ex e5
      repeat walk_at "mst"
      refine ⟨E', _, rfl, DGet.t (k := kC c) hE5 s5, ?_⟩
      rw [stC_val]
      refine ⟨_, rfl, ?_⟩
      by_cases mc : c ∈ Sn
      · rw [decide_eq_true mc]
        rw [pf_skip (fun z => z.2 ((mem c).mp mc))]
        repeat walk_at "mst"
        exact ⟨zs, Sn, _, _, _, _, fun z o q n1 n2 => e5 _ _ (kp z o q n1 n2), hf5, hE5, nd, mem, bs5, rfl⟩
      · rw [decide_eq_false mc]
        have nin : fre rs c.1 c.2 = true ∧ c ∉ acc.2 := ⟨hz, fun m => mc ((mem c).mpr m)⟩
        have fc : Fr rs c := hz
        rw [pf_new nin] at o2
        rw [pf_new nin, bigS_snoc]
        rw [if_pos (show (!false) = true from rfl)]
        repeat walk_at "mst"
        refine ⟨b, dx, _, rfl, hb5, gfl_no _ (by decide +kernel), ?_⟩
        repeat walk_at "mst"
        walk_at "new"; rename_i u2 nu2 H6 e6 s6
        have hB6 := hB5.ex e6
        repeat walk_at "mst"
        refine use_ftogether hB6 ok s6 fc fun G T H7 nG e7 hG ndT memT => ?_
        have e57 := e6.trans e7
        have hE7 := e57 _ _ hE5
        have hf7 := e57 _ _ hf5
        have bs7 := bs5.imp fun y c q => q.ex e57
        have nEG : E' ≠ G := fun h => by rw [← h, e6 _ _ hE5] at nG; cases nG
        have nfG : fp ≠ G := fun h => by rw [← h, e6 _ _ hf5] at nG; cases nG
        have kp7 : ∀ z o, H3 z = some o → z ≠ fp → z ≠ E' → H7 z = some o := fun z o q n1 n2 => e57 _ _ (e5 _ _ (kp z o q n1 n2))
        have W := comp_whole (w := w) ok fc
        have memC : ∀ d, d ∈ T ↔ d ∈ compL rs w c := fun d => (memT d).trans (mem_comp ok fc).symm
        have lenT := same_len ndT W.nd memC
        have few : T.length ≤ 36 := tg_few ok fc ndT fun d m => (memT d).mp m
        have neT : T ≠ [] := fun h => by have := (memT c).mpr .base; rw [h] at this; exact List.not_mem_nil this
        have six : ∀ d ∈ T, d.1 < 6 ∧ d.2 < 6 := fun d m => W.six d ((memC d).mp m)
        have disj : ∀ d ∈ T, d ∉ Sn := fun d m h => (List.nodup_append.mp o2.nd).2.2 d ((mem d).mp h) d ((memC d).mp m) rfl
        have ndS : (Sn ++ T).Nodup := List.nodup_append.mpr ⟨nd, ndT, fun x mx y my e => disj y my (e ▸ mx)⟩
        have lenS : (Sn ++ T).length ≤ 36 := by
          have := nodup_lenG (Sn ++ T) (clsL 6 6) ndS fun d m => by
            rcases List.mem_append.mp m with m | m
            · have := fre_in ok (o.fr d ((mem d).mp m))
              exact mem_cls.mpr ⟨by omega, by omega⟩
            · exact mem_cls.mpr (six d m)
          exact Nat.le_trans this (by decide)
        have sl := stC_len T
        repeat walk_at "mst"
        refine k_lock ⟨G, _, hG, trivial, fun od => ?_⟩
        repeat walk_at "mst"
        refine k_ikeys ?_
        repeat walk_at "mst"
        refine ⟨G, od, rfl, Or.inr ⟨stC T, upd_same, for_keysT (fun i σ H' => ∃ x6 : Option V, (∀ z o, H7 z = some o → z ≠ E' → z ≠ G → H' z = some o) ∧ H' G = some (.frz od (.dT (stC T))) ∧ H' E' = some (.dT (stC (Sn ++ T.take i))) ∧ σ = [some (.ref b), some (.ref fp), some (.ref E'), some (.int (c.1 : Int)), some (.int (c.2 : Int)), some (.ref G), x6]) ⟨_, fun z o q _ n2 => (upd_ne n2).trans q, upd_same, by rw [upd_ne nEG, List.take_zero, List.append_nil]; exact hE7, rfl⟩ ?_ ?_ ?_⟩⟩
        · rintro i σ H' _ ⟨_, _, hg, _⟩; exact hg
        · rintro i kk v u3 σ H8 hk8 ⟨y6, kp8, hG8, hE8, rfl⟩ hu3
          obtain ⟨d, hd, rfl⟩ := stC_at hk8
          have md := List.mem_of_getElem? hd
          have ndd : d ∉ Sn ++ T.take i := by
            intro h
            have e1 : Sn ++ T.take (i + 1) = (Sn ++ T.take i) ++ [d] := by rw [List.take_add_one, hd, List.append_assoc]; rfl
            have nd2 : (Sn ++ T.take (i + 1)).Nodup := List.Nodup.sublist (List.Sublist.append (List.Sublist.refl _) (List.take_sublist _ _)) ndS
            rw [e1] at nd2
            exact (List.nodup_append.mp nd2).2.2 d h d (List.mem_singleton.mpr rfl) rfl
          have tl : (Sn ++ T.take i).length ≤ 36 := by
            rw [List.length_append] at lenS ⊢
            rw [List.length_take]
            omega
          repeat walk_at "mst"
          refine ⟨E', _, rfl, DPut.t (k := kC d) hE8 hu3 (fits' (by rw [stC_len]; omega)), ?_⟩
          rw [stC_put ndd]
          refine ⟨_, fun z o q n1 n2 => (upd_ne n1).trans (kp8 z o q n1 n2), (upd_ne nEG.symm).trans hG8, ?_, rfl⟩
          rw [upd_same, List.append_assoc, List.take_add_one, hd]
          rfl
        · rintro σ H8 ⟨y6, kp8, hG8, hE8, rfl⟩
          refine ⟨hG8, ?_⟩
          rw [sl, List.take_length] at hE8
          have hG9 : upd H8 G (HO.dT (stC T)) G = some (.dT (stC T)) := upd_same
          have hE9 : upd H8 G (HO.dT (stC T)) E' = some (.dT (stC (Sn ++ T))) := (upd_ne nEG).trans hE8
          have kp9 : ∀ z o, H7 z = some o → z ≠ E' → upd H8 G (HO.dT (stC T)) z = some o := fun z o q n1 => by
            by_cases h : z = G
            · rw [h] at q ⊢
              rw [hG] at q
              rw [upd_same]; exact q
            · rw [upd_ne h]; exact kp8 z o q n1 h
          generalize upd H8 G (HO.dT (stC T)) = H9 at *
          have hf9 := kp9 _ _ hf7 nfE
          have fx9 : ∀ z o, H7 z = some o → FxL o → H9 z = some o := fun z o q f => kp9 z o q fun h => by rw [h, hE7] at q; cases q; exact f
          have bs9 := bs7.imp fun y c q => q.fx fx9
          have kp39 : ∀ z o, H3 z = some o → z ≠ fp → z ≠ E' → H9 z = some o := fun z o q n1 n2 => kp9 _ _ (kp7 z o q n1 n2) n2
          have mem2 : ∀ d, d ∈ Sn ++ T ↔ d ∈ acc.2 ++ compL rs w c := fun d => by rw [List.mem_append, List.mem_append, mem d, memC d]
          repeat walk_at "mst"
          refine ⟨G, stC T, rfl, hG9, ?_⟩
          rw [sl]
          repeat walk_at "mst"
          refine k_iteD (fun z => ?_) (fun z => ?_)
          · rw [if_pos (show 1 < (compL rs w c).length by omega)]
            repeat walk_at "mst"
            refine use_rectangle hG9 neT six few fun x HA nx_ eA hX => ?_
            rw [clip_same neT memC] at hX
            have hfA := eA _ _ hf9
            have hEA := eA _ _ hE9
            have bsA := bs9.imp fun y c q => q.ex eA
            repeat walk_at "mst"
            · exact fits' (by omega)
            have fx : ∀ z o, HA z = some o → FxL o → upd HA fp (HO.lst (zs ++ [.ref x])) z = some o := fun z o q f => (upd_ne (fun h => by rw [h, hfA] at q; cases q; exact f)).trans q
            refine ⟨zs ++ [.ref x], Sn ++ T, _, _, _, _, fun z o q n1 n2 => (upd_ne n1).trans (eA _ _ (kp39 z o q n1 n2)), upd_same, (upd_ne nfE.symm).trans hEA, ndS, mem2, ?_, rfl⟩
            exact (bsA.imp fun y c q => q.fx fx).app (.one ⟨x, rfl, hX.fx fx⟩)
          · rw [if_neg (show ¬ 1 < (compL rs w c).length by omega), List.append_nil]
            repeat walk_at "mst"
            exact ⟨zs, Sn ++ T, _, _, _, _, kp39, hf9, hE9, ndS, mem2, bs9, rfl⟩
  · rintro σ H4 ⟨zs, Sn, x3, x4, x5, x6, kp, hf4, hE4, nd, mem, bs, rfl⟩
    rw [csl, List.take_length] at bs
    have kpH : Ex H H4 := fun z o q => kp z o (e3 _ _ (e02 _ _ q)) (ne_of_none q nfp) (ne_of_none q nE0)
    repeat walk_at "mst"
    exact q fp zs H4 nfp kpH hf4 bs
theorem use_flparts {K : PySem.W.Frag} {H : Hp} {Q : VK} {E : XK} {b : Addr} {rs : Fl} {w : Nat} (hB : FlAt K H b rs) (ok : OkF rs w) (q : ∀ p ys H', H p = none → Ex H H' → H' p = some (.lst ys) → BsL K H' ys (partsF rs w) → Q (.ref p) H') : sp_Floor_m_parts K (.ref b :: ([] ++ [])) H Q E := ⟨b, rs, w, rfl, hB, ok, q⟩
theorem set_cut {r : List Nat} {j : Nat} (h : j < r.length) (c : Nat) : r.take j ++ [c] ++ r.drop (j + 1) = r.set j c := by
  rw [List.set_eq_take_append_cons_drop, if_pos h, List.append_assoc]; rfl
theorem rows_cut {rs : Fl} {i : Nat} (h : i < rs.length) (r : List Nat) : (rowsV rs).take i ++ [V.str (tx r)] ++ (rowsV rs).drop (i + 1) = rowsV (rs.set i r) := by
  unfold rowsV
  rw [List.map_set, List.set_eq_take_append_cons_drop, if_pos (by rw [List.length_map]; exact h), List.append_assoc]; rfl
def sp_law_covered (K : PySem.W.Frag) : Sp := fun vs H Q _ => ∃ (t : Addr) (rs : Fl) (w i j : Nat), vs = [.ref t, .int (i : Int), .int (j : Int)] ∧ H t = some (.tup (rowsV rs)) ∧ OkF rs w ∧ i < rs.length ∧ j < w ∧ ∀ p H', Ex H H' → H' p = some (.tup (rowsV (cov rs i j))) → Q (.ref p) H'
local macro_rules | `(tactic| walk_at "new") => `(tactic| ((first | refine ⟨fits (Nat.le_of_ble_eq_true rfl), ?_⟩ | skip); intro p np; generalize hq : upd _ p _ = H1; have e1 := nx np hq; have s1 := nS hq; clear hq))
abbrev N_law_covered : List Str := ["rows", "line", "column", "row"]
def t_law_covered (K : PySem.W.Frag) (E : XK) : TS := (tSeq (tAsg (tOp (rIxT K) (tVar 0) (tVar 1)) (gName 3)) (tRet (tOp (rCatA K) (tOp (rCatA K) (tSl (rSlA K) (tVar 0) tNoPart (tPart (tVar 1))) (tTup (tCons (tOp rCatS (tOp rCatS (tSl rSlS (tVar 3) tNoPart (tPart (tVar 2))) (tC (.str "#"))) (tSl rSlS (tVar 3) (tPart (tOp rAddI (tVar 2) (tC (.int 1)))) tNoPart)) tNil))) (tSl (rSlA K) (tVar 0) (tPart (tOp rAddI (tVar 1) (tC (.int 1)))) tNoPart))))
theorem len_law_covered {K : PySem.W.Frag} {vs : List V} {H : Hp} {Q : VK} {E : XK} (h : sp_law_covered K vs H Q E) : vs.length = 3 := by
  obtain ⟨_, _, _, _, _, rfl, _⟩ := h; rfl
theorem pure_law_covered {K : PySem.W.Frag} (vs : List V) (H : Hp) (Q : VK) (E : XK) (h : sp_law_covered K vs H Q E) : t_law_covered K E { nx := fun _ H' => Q .non H', rt := Q } (start N_law_covered vs) H := by
  obtain ⟨t, rs, w, i, j, rfl, ht, ok, hi, hj, q⟩ := h
  obtain ⟨r, hr, o⟩ := ok.at hi
  have lr := o.1
  have n6 := ok.n6
  have w6 := ok.w6
  have hl := rowsV_len rs
  unfold t_law_covered
  repeat walk_at "mst"
  refine k_ixT (k_st ht) (atI_nat (rowsV_at hr)) ?_
  repeat walk_at "mst"
  refine k_slH ht fun p1 H1 e1 h1 => ?_
  rw [cut_cut (by omega)] at h1
  repeat walk_at "mst"
  refine k_slX (by omega) ?_
  rw [HT.sIx_none, HT.sIx_nat, Nat.min_eq_left (by omega), List.drop_zero, Nat.sub_zero]
  repeat walk_at "mst"
  refine k_catX (b := [35]) (by rw [List.length_take]; show _ + 1 ≤ _; omega) ?_
  repeat walk_at "mst"
  refine k_slX (by omega) ?_
  rw [show (j : Int) + 1 = ((j + 1 : Nat) : Int) by omega, HT.sIx_none, HT.sIx_nat, Nat.min_eq_left (by omega), List.take_of_length_le (l := r.drop (j + 1)) (by rw [List.length_drop]; exact Nat.le_refl _)]
  repeat walk_at "mst"
  refine k_catX (by rw [List.length_append, List.length_take, List.length_drop]; show _ + 1 + _ ≤ _; omega) ?_
  rw [set_cut (by omega)]
  repeat walk_at "mst"
  walk_at "new"; rename_i p2 n2 H2 e2 s2
  repeat walk_at "mst"
  refine k_catH (e2 _ _ h1) s2 (fits (by rw [List.length_take]; show _ + 1 ≤ _; omega)) fun p3 H3 e3 h3 => ?_
  repeat walk_at "mst"
  refine k_slH (e3 _ _ (e2 _ _ (e1 _ _ ht))) fun p4 H4 e4 h4 => ?_
  rw [show (i : Int) + 1 = ((i + 1 : Nat) : Int) by omega, cut_off (by omega)] at h4
  repeat walk_at "mst"
  refine k_catH (e4 _ _ h3) h4 (fits (by rw [List.length_append, List.length_take, List.length_drop]; show _ + 1 + _ ≤ _; omega)) fun p5 H5 e5 h5 => ?_
  rw [rows_cut hi] at h5
  have e15 := ((e1.trans e2).trans (e3.trans e4)).trans e5
  have ec : rs.set i (r.set j 35) = cov rs i j := by unfold cov; rw [List.getD_eq_getElem?_getD, hr]; rfl
  rw [ec] at h5
  exact q p5 H5 e15 h5
theorem use_lcovered {K : PySem.W.Frag} {H : Hp} {Q : VK} {E : XK} {t : Addr} {rs : Fl} {w i j : Nat} (ht : H t = some (.tup (rowsV rs))) (ok : OkF rs w) (hi : i < rs.length) (hj : j < w) (q : ∀ p H', Ex H H' → H' p = some (.tup (rowsV (cov rs i j))) → Q (.ref p) H') : sp_law_covered K ([.ref t, .int (i : Int), .int (j : Int)] ++ []) H Q E := ⟨t, rs, w, i, j, rfl, ht, ok, hi, hj, q⟩
/-- one line's moves, up to the column j -/
theorem law_mvs (s : Str) (hs : s = "left" ∨ s = "right") {rs : Fl} {w : Nat} (ok : OkF rs w) : ((List.range (rs.length - dnF s)).flatMap fun i => (List.range (w - 1 + dnF s)).flatMap fun j => mvAtL s rs i j) = mvsL s w rs := by
  have no : ∀ i j, (rs.length ≤ i + dnF s ∨ w ≤ j + rtF s) → mvAtL s rs i j = [] := by
    intro i j h
    unfold mvAtL
    rw [if_neg]
    rintro ⟨_, h2⟩
    have := fre_in ok h2
    omega
  have n1 := ok.n1
  have w1 := ok.w1
  unfold mvsL
  rcases hs with rfl | rfl
  · have d : dnF "left" = 1 := rfl
    rw [d]
    have e : rs.length = rs.length - 1 + 1 := by omega
    have ew : w - 1 + 1 = w := by omega
    rw [ew]
    conv => rhs; rw [e, List.range_succ, List.flatMap_append]
    have z : ([rs.length - 1].flatMap fun i => (List.range w).flatMap fun j => mvAtL "left" rs i j) = [] := by
      rw [List.flatMap_singleton]
      refine List.flatMap_eq_nil_iff.mpr fun j _ => no _ _ (Or.inl (by rw [d]; omega))
    rw [z, List.append_nil]
  · have d : dnF "right" = 0 := rfl
    have r1 : rtF "right" = 1 := rfl
    rw [d, Nat.sub_zero, Nat.add_zero]
    congr 1
    funext i
    have e : w = w - 1 + 1 := by omega
    conv => rhs; rw [e, List.range_succ, List.flatMap_append]
    have z : ([w - 1].flatMap fun j => mvAtL "right" rs i j) = [] := by
      rw [List.flatMap_singleton]
      exact no _ _ (Or.inr (by rw [r1]; omega))
    rw [z, List.append_nil]
def sp_law_floor_moves (K : PySem.W.Frag) : Sp := fun vs H Q _ => ∃ (t : Addr) (s : Str) (rs : Fl) (w : Nat), vs = [.ref t, .str s] ∧ (s = "left" ∨ s = "right") ∧ H t = some (.tup (rowsV rs)) ∧ OkF rs w ∧ ∀ p ys H', H p = none → Ex H H' → H' p = some (.lst ys) → DsL H' ys (mvsL s w rs) → Q (.ref p) H'
local macro_rules | `(tactic| walk_at "new") => `(tactic| ((first | refine ⟨fits (Nat.le_of_ble_eq_true rfl), ?_⟩ | skip); intro p np; generalize hq : upd _ p _ = H1; have e1 := nx np hq; have s1 := nS hq; clear hq))
theorem k_eqStr {H : Hp} {Q : VK} {a b : Str} (q : Q (.bl (decide (a = b))) H) : rEq (.str a) (.str b) H Q := ⟨rfl, by
  have e : decide (V.str a = V.str b) = decide (a = b) := decide_eq_decide.mpr ⟨fun h => V.str.inj h, fun h => by rw [h]⟩
  rw [e]; exact q⟩
theorem fre_at {rs : Fl} {i j : Nat} {r : List Nat} {c : Nat} (hr : rs[i]? = some r) (hc : r[j]? = some c) : decide ([c] = [46]) = fre rs i j := by
  unfold fre cell
  rw [hr]
  show _ = decide (r[j]? = some 46)
  rw [hc]
  exact decide_eq_decide.mpr ⟨fun h => by injection h with h; rw [h], fun h => by injection h with h; rw [h]⟩
theorem ix_row {K : PySem.W.Frag} {H : Hp} {Q : VK} {t : Addr} {rs : Fl} {i : Nat} {r : List Nat} (ht : H t = some (.tup (rowsV rs))) (hr : rs[i]? = some r) (q : Q (.str (tx r)) H) : rIxT K (.ref t) (.int (i : Int)) H Q := k_ixT (k_st ht) (atI_nat (rowsV_at hr)) q
abbrev N_law_floor_moves : List Str := ["rows", "side", "down", "found", "line", "column", "one"]
def t_law_floor_moves (K : PySem.W.Frag) (E : XK) : TS := (tSeq (tAsg (tIf (tTest (tOp rEq (tVar 1) (tC (.str "left")))) (tC (.int 1)) (tC (.int 0))) (gName 2)) (tSeq (tAsg (tLst tNil) (gName 3)) (tSeq (tFor (iRng1 (tCons (tOp rSubI (tCB (rLenQ K) (tCons (tVar 0) tNil)) (tVar 2)) tNil)) (gName 4) (tFor (iRng1 (tCons (tOp rAddI (tOp rSubI (tCB rLenS (tCons (tOp (rIxT K) (tVar 0) (tC (.int 0))) tNil)) (tC (.int 1))) (tVar 2)) tNil)) (gName 5) (tIfS (tAnd (tTest (tOp rEq (tOp rIxS (tOp (rIxT K) (tVar 0) (tVar 4)) (tVar 5)) (tC (.str ".")))) (tTest (tOp rEq (tOp rIxS (tOp (rIxT K) (tVar 0) (tOp rAddI (tVar 4) (tVar 2))) (tOp rSubI (tOp rAddI (tVar 5) (tC (.int 1))) (tVar 2))) (tC (.str "."))))) (tSeq (tAsg (tCall (sp_law_covered K) [] E0 (tCons (tVar 0) (tCons (tVar 4) (tCons (tVar 5) tNil)))) (gName 6)) (tDrop (tBM K "list" rAppend (tVar 3) (tCons (tTup (tCons (tC (.str "floor")) (tCons (tCall (sp_law_covered K) [] E0 (tCons (tVar 6) (tCons (tOp rAddI (tVar 4) (tVar 2)) (tCons (tOp rSubI (tOp rAddI (tVar 5) (tC (.int 1))) (tVar 2)) tNil)))) tNil))) tNil)))) tNext))) (tRet (tVar 3)))))
theorem len_law_floor_moves {K : PySem.W.Frag} {vs : List V} {H : Hp} {Q : VK} {E : XK} (h : sp_law_floor_moves K vs H Q E) : vs.length = 2 := by
  obtain ⟨_, _, _, _, rfl, _⟩ := h; rfl
theorem pure_law_floor_moves {K : PySem.W.Frag} (vs : List V) (H : Hp) (Q : VK) (E : XK) (h : sp_law_floor_moves K vs H Q E) : t_law_floor_moves K E { nx := fun _ H' => Q .non H', rt := Q } (start N_law_floor_moves vs) H := by
  obtain ⟨t, s, rs, w, rfl, hs, ht, ok, q⟩ := h
  rw [← law_mvs s hs ok] at q
  have dr : dnF s + rtF s = 1 := by rcases hs with rfl | rfl <;> rfl
  have dn : (if s = "left" then (1 : Int) else 0) = ((dnF s : Nat) : Int) := by unfold dnF; split <;> rfl
  have n1 := ok.n1
  have n6 := ok.n6
  have w1 := ok.w1
  have w6 := ok.w6
  have hl := rowsV_len rs
  obtain ⟨r0, h0, o0⟩ := ok.at (i := 0) ok.n1
  have l0 := o0.1
  unfold t_law_floor_moves
  repeat walk_at "mst"
  refine k_eqStr ?_
  repeat walk_at "mst"
  refine k_ifv ?_
  rw [dn]
  repeat walk_at "mst"
  walk_at "new"; rename_i fp nfp H1 e1 s1
  repeat walk_at "mst"
  have d01 : dnF s ≤ 1 := by omega
  refine ⟨_, rfl, by omega, by omega, ?_⟩
  rw [show ((rowsV rs).length : Int) - ((dnF s : Nat) : Int) = ((rs.length - dnF s : Nat) : Int) by omega, Int.toNat_natCast]
  refine forK_range (fun i σ H' => ∃ (zs : List V) (x4 x5 x6 : Option V), Ex H H' ∧ H' fp = some (.lst zs) ∧ DsL H' zs ((List.range i).flatMap fun i => (List.range (w - 1 + dnF s)).flatMap fun j => mvAtL s rs i j) ∧ σ = [some (.ref t), some (.str s), some (.int ((dnF s : Nat) : Int)), some (.ref fp), x4, x5, x6]) ⟨[], none, none, none, e1, s1, .nil, rfl⟩ ?_ ?_
  · rintro i σ H2 hi ⟨zs, x4, x5, x6, e, hf, bs, rfl⟩
    have zl : zs.length ≤ i * 6 := by
      rw [bs.1]
      refine flat_len _ 6 (fun i => ?_) i
      have := flat_len (fun j => mvAtL s rs i j) 1 (mvAtL_len s rs i) (w - 1 + dnF s)
      omega
    have ht2 := e _ _ ht
    repeat walk_at "mst"
    refine ix_row (i := 0) ht2 h0 ?_
    repeat walk_at "mst"
    refine k_lenX (by omega) ?_
    repeat walk_at "mst"
    refine ⟨_, rfl, by omega, by omega, ?_⟩
    rw [show ((r0.length : Nat) : Int) - 1 + ((dnF s : Nat) : Int) = ((w - 1 + dnF s : Nat) : Int) by omega, Int.toNat_natCast]
    obtain ⟨r, hr, o⟩ := ok.at (i := i) (by omega)
    obtain ⟨r', hr', o'⟩ := ok.at (i := i + dnF s) (by omega)
    have lr := o.1
    have lr' := o'.1
    refine forK_range (fun j σ H' => ∃ (zs : List V) (x5 x6 : Option V), Ex H H' ∧ H' fp = some (.lst zs) ∧ DsL H' zs (((List.range i).flatMap fun i => (List.range (w - 1 + dnF s)).flatMap fun j => mvAtL s rs i j) ++ (List.range j).flatMap fun j => mvAtL s rs i j) ∧ σ = [some (.ref t), some (.str s), some (.int ((dnF s : Nat) : Int)), some (.ref fp), some (.int (i : Int)), x5, x6]) ⟨zs, _, _, e, hf, by rw [List.range_zero, List.flatMap_nil, List.append_nil]; exact bs, rfl⟩ ?_ ?_
    · rintro j σ H3 hj ⟨ws, y5, y6, e3, hf3, bs3, rfl⟩
      have wl : ws.length ≤ 50 := by
        rw [bs3.1, List.length_append, ← bs.1]
        have := flat_len (fun j => mvAtL s rs i j) 1 (mvAtL_len s rs i) j
        omega
      have ht3 := e3 _ _ ht
      have rsn : (List.range (j + 1)).flatMap (fun j => mvAtL s rs i j) = (List.range j).flatMap (fun j => mvAtL s rs i j) ++ mvAtL s rs i j := by
        rw [List.range_succ, List.flatMap_append, List.flatMap_singleton]
      rw [rsn, ← List.append_assoc]
      have hc : r[j]? = some (r[j]'(by omega)) := List.getElem?_eq_getElem _
      have hc' : r'[j + rtF s]? = some (r'[j + rtF s]'(by omega)) := List.getElem?_eq_getElem _
      have skip : mvAtL s rs i j = [] → ∃ (zs : List V) (x5 x6 : Option V), Ex H H3 ∧ H3 fp = some (.lst zs) ∧ DsL H3 zs ((((List.range i).flatMap fun i => (List.range (w - 1 + dnF s)).flatMap fun j => mvAtL s rs i j) ++ (List.range j).flatMap fun j => mvAtL s rs i j) ++ mvAtL s rs i j) ∧ [some (V.ref t), some (.str s), some (.int ((dnF s : Nat) : Int)), some (.ref fp), some (.int (i : Int)), some (.int (j : Int)), y6] = [some (.ref t), some (.str s), some (.int ((dnF s : Nat) : Int)), some (.ref fp), some (.int (i : Int)), x5, x6] := fun em => by
        rw [em, List.append_nil]
        exact ⟨ws, _, _, e3, hf3, bs3, rfl⟩
      repeat walk_at "mst"
      refine ix_row ht3 hr ?_
      repeat walk_at "mst"
      refine k_ixX (by omega) (atI_nat hc) ?_
      repeat walk_at "mst"
      refine k_eqX (b := [46]) ?_
      rw [fre_at hr hc]
      cases f1 : fre rs i j
      · repeat walk_at "mst"
        exact skip (by unfold mvAtL; rw [if_neg fun h => by rw [f1] at h; exact Bool.noConfusion h.1])
      repeat walk_at "mst"
      rw [show (i : Int) + ((dnF s : Nat) : Int) = ((i + dnF s : Nat) : Int) by omega]
      refine ix_row ht3 hr' ?_
      repeat walk_at "mst"
      rw [show (j : Int) + 1 - ((dnF s : Nat) : Int) = ((j + rtF s : Nat) : Int) by omega]
      refine k_ixX (by omega) (atI_nat hc') ?_
      repeat walk_at "mst"
      refine k_eqX (b := [46]) ?_
      rw [fre_at hr' hc']
      cases g1 : fre rs (i + dnF s) (j + rtF s)
      · repeat walk_at "mst"
        exact skip (by unfold mvAtL; rw [if_neg fun h => by rw [g1] at h; exact Bool.noConfusion h.2])
      have em : mvAtL s rs i j = [cov (cov rs i j) (i + dnF s) (j + rtF s)] := by unfold mvAtL; rw [if_pos ⟨f1, g1⟩]
      rw [em]
      have in1 := fre_in ok f1
      have in2 := fre_in ok g1
      repeat walk_at "mst"
      refine use_lcovered ht3 ok in1.1 in1.2 fun u1 H4 e4 h4 => ?_
      repeat walk_at "mst"
      rw [show (i : Int) + ((dnF s : Nat) : Int) = ((i + dnF s : Nat) : Int) by omega, show (j : Int) + 1 - ((dnF s : Nat) : Int) = ((j + rtF s : Nat) : Int) by omega]
      refine use_lcovered h4 (cov_ok ok in1.1) (by unfold cov; rw [List.length_set]; exact in2.1) in2.2 fun u2 H5 e5 h5 => ?_
      repeat walk_at "mst"
      walk_at "new"; rename_i d nd H6 e6 s6
      have e36 := (e4.trans e5).trans e6
      have hf6 := e36 _ _ hf3
      have bs6 := (bs3.imp fun y c q => q.ex e36).app (.one (P := DuL) (y := .ref d) ⟨d, u2, rfl, s6, e6 _ _ h5⟩)
      repeat walk_at "mst"
      · exact fits' (by omega)
      refine ⟨ws ++ [V.ref d], _, _, Evl.Ex.mut (e3.trans e36) nfp, upd_same, ?_, rfl⟩
      exact bs6.imp fun y c q => q.keep (H' := upd H6 fp (HO.lst (ws ++ [V.ref d]))) fun c o q n => (upd_ne fun e => n _ (by rw [e, hf6] at q; exact (Option.some.inj q).symm)).trans q
    · rintro σ H3 ⟨ws, y5, y6, e3, hf3, bs3, rfl⟩
      refine ⟨ws, _, _, _, e3, hf3, ?_, rfl⟩
      rw [List.range_succ, List.flatMap_append, List.flatMap_singleton]
      exact bs3
  · rintro σ H2 ⟨zs, x4, x5, x6, e, hf, bs, rfl⟩
    repeat walk_at "mst"
    exact q fp zs H2 nfp e hf bs
theorem use_lmoves {K : PySem.W.Frag} {H : Hp} {Q : VK} {E : XK} {t : Addr} {s : Str} {rs : Fl} {w : Nat} (hs : s = "left" ∨ s = "right") (ht : H t = some (.tup (rowsV rs))) (ok : OkF rs w) (q : ∀ p ys H', H p = none → Ex H H' → H' p = some (.lst ys) → DsL H' ys (mvsL s w rs) → Q (.ref p) H') : sp_law_floor_moves K ([.ref t, .str s] ++ []) H Q E := ⟨t, s, rs, w, rfl, hs, ht, ok, q⟩
def sgs (r : List Nat) : List V := r.map fun c => V.str (tx [c])
theorem sgs_inj {a b : List Nat} (h : sgs a = sgs b) : a = b := by
  unfold sgs at h
  induction a generalizing b with
  | nil => cases b with | nil => rfl | cons _ _ => cases h
  | cons c a ih =>
    cases b with
    | nil => cases h
    | cons d b =>
      injection h with h1 h2
      injection h1 with h1
      have := tx_inj.mp h1
      injection this with h3
      rw [h3, ih h2]
structure GL (H0 H : Hp) (D : Addr) (as : List Addr) (rs : Fl) : Prop where
  d : H D = some (.lst (as.map V.ref))
  nd : ∀ (i k : Nat) (a : Addr), as[i]? = some a → as[k]? = some a → i = k
  ne : D ∉ as
  fr : H0 D = none
  fa : ∀ a ∈ as, H0 a = none
  len : as.length = rs.length
  at_ : ∀ (i : Nat) (r : List Nat), rs[i]? = some r → ∃ a, as[i]? = some a ∧ H a = some (.lst (sgs r))
theorem GL.set {H0 H : Hp} {D : Addr} {as : List Addr} {rs : Fl} (g : GL H0 H D as rs) {i j : Nat} {r : List Nat} {a : Addr} (hr : rs[i]? = some r) (ha : as[i]? = some a) : GL H0 (upd H a (.lst (sgs (r.set j 35)))) D as (cov rs i j) := by
  have ma : a ∈ as := List.mem_of_getElem? ha
  have nD : D ≠ a := fun h => g.ne (h ▸ ma)
  have ec : cov rs i j = rs.set i (r.set j 35) := by unfold cov; rw [List.getD_eq_getElem?_getD, hr]; rfl
  refine ⟨(upd_ne nD).trans g.d, g.nd, g.ne, g.fr, g.fa, by rw [ec, List.length_set]; exact g.len, fun k q hq => ?_⟩
  rw [ec] at hq
  rcases Nat.decEq i k with h | h
  · rw [List.getElem?_set_ne h] at hq
    obtain ⟨b, hb, hl⟩ := g.at_ k q hq
    refine ⟨b, hb, (upd_ne fun e => ?_).trans hl⟩
    subst e
    exact h (g.nd _ _ _ ha hb)
  · subst h
    rw [List.getElem?_set_self (List.getElem?_eq_some_iff.mp hr).1] at hq
    cases hq
    exact ⟨a, ha, upd_same⟩
theorem GL.add {H0 H : Hp} {D u : Addr} {as : List Addr} {rs : Fl} {r : List Nat} (g : GL H0 H D as rs) (e : Ex H0 H) (nu : H u = none) : GL H0 (upd (upd H u (.lst (sgs r))) D (.lst ((as.map V.ref) ++ [.ref u]))) D (as ++ [u]) (rs ++ [r]) := by
  have al : ∀ a ∈ as, a ≠ u ∧ a ≠ D := fun a m => by
    obtain ⟨i, hi⟩ := List.getElem?_of_mem m
    have li := (List.getElem?_eq_some_iff.mp hi).1
    have lr : i < rs.length := by have := g.len; omega
    obtain ⟨b, hb, hl⟩ := g.at_ i rs[i] (List.getElem?_eq_getElem lr)
    rw [hi] at hb
    cases hb
    exact ⟨fun h => (by subst h; rw [nu] at hl; cases hl), fun h => g.ne (h ▸ m)⟩
  have nD : D ≠ u := fun h => by have := g.d; rw [h, nu] at this; cases this
  refine ⟨by rw [upd_same, List.map_append]; rfl, ?_, ?_, g.fr, ?_, by rw [List.length_append, List.length_append, g.len]; rfl, fun i q hq => ?_⟩
  · intro i k a h1 h2
    rcases get_snoc2 h1 with h1 | ⟨e1, r1⟩
    · rcases get_snoc2 h2 with h2 | ⟨e2, r2⟩
      · exact g.nd i k a h1 h2
      · exact absurd r2 (al a (List.mem_of_getElem? h1)).1
    · rcases get_snoc2 h2 with h2 | ⟨e2, r2⟩
      · exact absurd r1 (al a (List.mem_of_getElem? h2)).1
      · exact e1.trans e2.symm
  · intro m
    rcases List.mem_append.mp m with m | m
    · exact g.ne m
    · rw [List.mem_singleton] at m; exact nD m
  · intro a m
    rcases List.mem_append.mp m with m | m
    · exact g.fa a m
    · rw [List.mem_singleton] at m; subst m; exact Evl.fresh_back e nu
  · rcases get_snoc2 hq with hq | ⟨ei, rfl⟩
    · obtain ⟨a, ha, hl⟩ := g.at_ i q hq
      have ma := List.mem_of_getElem? ha
      refine ⟨a, by rw [List.getElem?_append_left (List.getElem?_eq_some_iff.mp ha).1]; exact ha, ?_⟩
      rw [upd_ne (al a ma).2, upd_ne (al a ma).1]
      exact hl
    · refine ⟨u, by rw [ei, ← g.len, List.getElem?_append_right (Nat.le_refl _), Nat.sub_self]; rfl, ?_⟩
      rw [upd_ne nD.symm]
      exact upd_same
def sp_Floor_p_covered (K : PySem.W.Frag) : Sp := fun vs H Q _ => ∃ (b cs p1 p2 : Addr) (rs : Fl) (w i j i2 j2 : Nat), vs = [.ref b, .ref cs] ∧ FlAt K H b rs ∧ OkF rs w ∧ H cs = some (.lst [.ref p1, .ref p2]) ∧ H p1 = some (.tup [.int (i : Int), .int (j : Int)]) ∧ H p2 = some (.tup [.int (i2 : Int), .int (j2 : Int)]) ∧ (i < rs.length ∧ j < w) ∧ (i2 < rs.length ∧ j2 < w) ∧
  ∀ x H', H x = none → Ex H H' → FlAt K H' x (cov (cov rs i j) i2 j2) → Q (.ref x) H'
local macro_rules | `(tactic| walk_at "mlk") => `(tactic| exact gfl_get _)
abbrev N_Floor_p_covered : List Str := ["self", "cells", "rows", "row", "column"]
def t_Floor_p_covered (K : PySem.W.Frag) (E : XK) : TS := (tSeq (tAsg (tLc (iTup K (tFld K (tVar 0) "_rows")) (gName 3) tYes (tCB rListS (tCons (tVar 3) tNil)) [3]) (gName 2)) (tSeq (tFor (iList K (tVar 1)) (gTup K 2 (gCons (gName 3) (gCons (gName 4) gNil))) (tAsg (tC (.str "#")) (gSub (tOp (rIxL K) (tVar 2) (tVar 3)) (tVar 4) L2.rSetL))) (tRet (tMake (He.ga K "Floor") (sp_Floor_d_init K) [] E0 (tCons (tLc (iList K (tVar 2)) (gName 3) tYes (tBM K "str" (rJoinS K) (tC (.str "")) (tCons (tVar 3) tNil)) [3]) tNil)))))
theorem len_Floor_p_covered {K : PySem.W.Frag} {vs : List V} {H : Hp} {Q : VK} {E : XK} (h : sp_Floor_p_covered K vs H Q E) : vs.length = 2 := by
  obtain ⟨_, _, _, _, _, _, _, _, _, _, rfl, _⟩ := h; rfl
theorem pure_Floor_p_covered {K : PySem.W.Frag} (F : FFloor K) (vs : List V) (H : Hp) (Q : VK) (E : XK) (h : sp_Floor_p_covered K vs H Q E) : t_Floor_p_covered K E { nx := fun _ H' => Q .non H', rt := Q } (start N_Floor_p_covered vs) H := by
  obtain ⟨b, cs, p1, p2, rs, w, i, j, i2, j2, rfl, ⟨dx, t, hb, ht⟩, ok, hcs, hp1, hp2, in1, in2, q⟩ := h
  unfold t_Floor_p_covered
  obtain ⟨cl, na⟩ := F
  have n6 := ok.n6
  have w6 := ok.w6
  have hl := rowsV_len rs
  repeat walk_at "mst"
  refine ⟨t, rfl, ⟨_, k_st ht⟩, ?_⟩
  intro D hD
  refine lc_tup (K := K) (a := t) (xs := rowsV rs) (fun k H' => Ex H H' ∧ ∃ as, GL H H' D as (rs.take k)) ⟨Evl.Ex.new hD, [], upd_same, fun i k a h => (by cases h), (fun m => by cases m), hD, fun a m => (by cases m), rfl, fun i r h => (by cases h)⟩ (fun k H' _ p => Evl.ex_t p.1 (k_st ht)) (fun k x H' hx p => ?_) (fun H1 p => ?_)
  · obtain ⟨e, as, g⟩ := p
    have hk : k < rs.length := by rw [← hl]; exact (List.getElem?_eq_some_iff.mp hx).1
    obtain ⟨r, hr, o⟩ := ok.at hk
    rw [rowsV_at hr] at hx
    cases hx
    have lr := o.1
    repeat walk_at "mst"
    refine ⟨rfl, ?_⟩
    unfold tYes
    repeat walk_at "mst"
    refine ⟨tx r, rfl, by rw [tx_size]; omega, fun u nu => ?_⟩
    rw [tx_cps, map_sign]
    have nD : D ≠ u := fun h => by have := g.d; rw [h, nu] at this; cases this
    refine ⟨as.map V.ref, (upd_ne nD).trans g.d, fits' (by rw [List.length_map, g.len, List.length_take]; omega), Evl.Ex.mut (e.trans (Evl.Ex.new nu)) hD, as ++ [u], ?_⟩
    rw [List.take_add_one, hr]
    exact g.add e nu
  · obtain ⟨e, as, g⟩ := p
    rw [hl, List.take_of_length_le (Nat.le_refl _)] at g
    repeat walk_at "mst"
    let st : Nat → Fl := fun k => match k with
      | 0 => rs
      | 1 => cov rs i j
      | _ + 2 => cov (cov rs i j) i2 j2
    have items : ∀ (k : Nat) (x : V), [V.ref p1, V.ref p2][k]? = some x → ∃ pa ii jj, x = .ref pa ∧ H pa = some (.tup [.int ((ii : Nat) : Int), .int ((jj : Nat) : Int)]) ∧ (ii < rs.length ∧ jj < w) ∧ st (k + 1) = cov (st k) ii jj := by
      intro k x hx
      match k, hx with
      | 0, hx => cases hx; exact ⟨p1, i, j, rfl, hp1, in1, rfl⟩
      | 1, hx => cases hx; exact ⟨p2, i2, j2, rfl, hp2, in2, rfl⟩
      | k + 2, hx => cases hx
    have okc : OkF (cov rs i j) w := cov_ok ok in1.1
    have lc1 : (cov rs i j).length = rs.length := List.length_set
    have okk : ∀ k, OkF (st k) w ∧ (st k).length = rs.length := by
      intro k
      match k with
      | 0 => exact ⟨ok, rfl⟩
      | 1 => exact ⟨okc, lc1⟩
      | k + 2 => exact ⟨cov_ok okc (by rw [lc1]; exact in2.1), by show (cov (cov rs i j) i2 j2).length = _; unfold cov at lc1 ⊢; rw [List.length_set]; exact lc1⟩
    refine ⟨cs, rfl, ⟨_, k_sq (e _ _ hcs)⟩, forK_list (xs := [V.ref p1, V.ref p2]) (fun k σ H' => Ex H H' ∧ ∃ x3 x4 : Option V, GL H H' D as (st k) ∧ σ = [some (.ref b), some (.ref cs), some (.ref D), x3, x4]) ⟨e, none, none, g, rfl⟩ ?_ ?_ ?_⟩
    · rintro k σ H' _ ⟨e, _⟩; exact k_sq (e _ _ hcs)
    · rintro k x σ H2 hx ⟨e2, x3, x4, g2, rfl⟩
      obtain ⟨pa, ii, jj, rfl, hpa, inr, est⟩ := items k x hx
      obtain ⟨okst, lst⟩ := okk k
      obtain ⟨r, hr, o⟩ := okst.at (i := ii) (by omega)
      obtain ⟨a, ha, hla⟩ := g2.at_ ii r hr
      have lr := o.1
      refine k_gtup (k_st (e2 _ _ hpa)) rfl ?_
      repeat walk_at "mst"
      refine k_ixL (k_sq g2.d) (atI_nat (j := ii) (v := V.ref a) (by rw [List.getElem?_map, ha]; rfl)) ?_
      repeat walk_at "mst"
      refine ⟨a, _, jj, jj, rfl, rfl, hla, by unfold ixN sgs; rw [if_pos (by omega), if_pos (by rw [List.length_map]; omega), Int.toNat_natCast], ?_⟩
      have es : (sgs r).set jj (.str "#") = sgs (r.set jj 35) := (List.map_set (f := fun c => V.str (tx [c])) (l := r) (i := jj) (a := 35)).symm
      rw [es]
      refine ⟨Evl.Ex.mut e2 (g2.fa a (List.mem_of_getElem? ha)), _, _, ?_, rfl⟩
      rw [est]
      exact g2.set hr ha
    · rintro σ H2 ⟨e2, x3, x4, g2, rfl⟩
      obtain ⟨okst, lst⟩ := okk 2
      have g2 : GL H H2 D as (st 2) := g2
      have lasl := g2.len
      repeat walk_at "mst"
      refine ⟨D, rfl, ⟨_, k_sq g2.d⟩, lcQ_list (xs := as.map V.ref) (fun x y _ => ∀ a r, x = .ref a → H2 a = some (.lst (sgs r)) → y = .str (tx r)) (fun _ _ _ _ h _ => h) (k_sq g2.d) (fits' (by rw [List.length_map]; omega)) ?_ ?_⟩
      · intro k x hx H3 e3 RR rr
        rw [List.getElem?_map] at hx
        obtain ⟨a, ha, rfl⟩ := Option.map_eq_some_iff.mp hx
        have hk := (List.getElem?_eq_some_iff.mp ha).1
        obtain ⟨r, hr, o⟩ := okst.at (i := k) (by omega)
        obtain ⟨a', ha', hla⟩ := g2.at_ k r hr
        rw [ha] at ha'
        cases ha'
        have lr := o.1
        repeat walk_at "mst"
        refine ⟨rfl, ?_⟩
        unfold tYes
        repeat walk_at "mst"
        refine k_tyX ?_
        repeat walk_at "mst"
        refine k_joinX (l := r) (k_sq (e3 _ _ hla)) (by omega) ?_
        refine rr _ _ (Evl.Ex.refl _) fun a2 r2 ea h2 => ?_
        cases ea
        rw [hla] at h2
        injection h2 with h2
        injection h2 with h2
        rw [sgs_inj h2]
      · intro D2 ys H3 hD2 e3 hd yl ok2
        have es : ys = rowsV (st 2) := by
          refine List.ext_getElem? fun k => ?_
          rcases Nat.lt_or_ge k (st 2).length with c | c
          · obtain ⟨r, hr, o⟩ := okst.at (i := k) c
            obtain ⟨a, ha, hla⟩ := g2.at_ k r hr
            obtain ⟨y, hy, ey⟩ := ok2 k (.ref a) (by rw [List.getElem?_map, ha]; rfl)
            rw [hy, ey a r rfl hla, rowsV_at hr]
          · rw [List.getElem?_eq_none (by rw [yl, List.length_map]; omega), List.getElem?_eq_none (by rw [rowsV_len]; exact c)]
        rw [es] at hd
        have e23 := e2.trans e3
        repeat walk_at "mst"
        refine mk_fl (k_sq hd) okst fun x H5 nx e5 hx => ?_
        repeat walk_at "mst"
        exact q x H5 (Evl.fresh_back e23 nx) (e23.trans e5) hx
theorem use_covered {K : PySem.W.Frag} {H : Hp} {Q : VK} {E : XK} {b cs p1 p2 : Addr} {rs : Fl} {w i j i2 j2 : Nat} (h : FlAt K H b rs) (ok : OkF rs w) (hcs : H cs = some (.lst [.ref p1, .ref p2])) (h1 : H p1 = some (.tup [.int (i : Int), .int (j : Int)])) (h2 : H p2 = some (.tup [.int (i2 : Int), .int (j2 : Int)])) (in1 : i < rs.length ∧ j < w) (in2 : i2 < rs.length ∧ j2 < w)
    (q : ∀ x H', H x = none → Ex H H' → FlAt K H' x (cov (cov rs i j) i2 j2) → Q (.ref x) H') : sp_Floor_p_covered K (.ref b :: ([.ref cs] ++ [])) H Q E := ⟨b, cs, p1, p2, rs, w, i, j, i2, j2, rfl, h, ok, hcs, h1, h2, in1, in2, q⟩
theorem mvsL_cells (s : Str) (w : Nat) (rs : Fl) : mvsL s w rs = (cellL rs.length w).flatMap fun c => mvAtL s rs c.1 c.2 := by
  unfold mvsL cellL
  rw [List.flatMap_assoc]
  congr 1
  funext i
  rw [List.flatMap_map]
theorem flat_len2 {α β : Type} (f : α → List β) (h : ∀ a, (f a).length ≤ 1) : ∀ l : List α, (l.flatMap f).length ≤ l.length
  | [] => Nat.le_refl _
  | a :: l => by
    rw [List.flatMap_cons, List.length_append, List.length_cons]
    have := h a
    have := flat_len2 f h l
    omega
def sp_Floor_m_moves (K : PySem.W.Frag) : Sp := fun vs H Q _ => ∃ (b : Addr) (s : Str) (rs : Fl) (w : Nat), vs = [.ref b, .str s] ∧ (s = "left" ∨ s = "right") ∧ FlAt K H b rs ∧ OkF rs w ∧ ∀ p ys H', H p = none → Ex H H' → H' p = some (.lst ys) → BsL K H' ys (mvsL s w rs) → Q (.ref p) H'
local macro_rules | `(tactic| walk_at "mlk") => `(tactic| exact gfl_get _)
local macro_rules | `(tactic| walk_at "new") => `(tactic| ((first | refine ⟨fits (Nat.le_of_ble_eq_true rfl), ?_⟩ | skip); intro p np; generalize hq : upd _ p _ = H1; have e1 := nx np hq; have s1 := nS hq; clear hq))
abbrev N_Floor_m_moves : List Str := ["self", "side", "down", "right", "found", "row", "column", "second"]
def t_Floor_m_moves (K : PySem.W.Frag) (E : XK) : TS := (tSeq (tAsg (tOp (rKD K (He.ga K "SHAPES")) (tC (.ref (He.ga K "SHAPES"))) (tVar 1)) (gTup K 2 (gCons (gName 2) (gCons (gName 3) gNil)))) (tSeq (tAsg (tLst tNil) (gName 4)) (tSeq (tFor (iList K (tMeth (He.ga K "Floor") "_cells" (sp_Floor_p_cells K) [] E0 (tVar 0) tNil)) (gTup K 2 (gCons (gName 5) (gCons (gName 6) gNil))) (tSeq (tAsg (tTup (tCons (tOp rAddI (tVar 5) (tVar 2)) (tCons (tOp rAddI (tVar 6) (tVar 3)) tNil))) (gName 7)) (tIfS (tAnd (tB (tMeth (He.ga K "Floor") "_is_free" (sp_Floor_p_is_free K) [] E0 (tVar 0) (tCons (tVar 5) (tCons (tVar 6) tNil)))) (tB (tMeth (He.ga K "Floor") "_is_free" (sp_Floor_p_is_free K) [] E0 (tVar 0) (tCons (tOp (rIxT K) (tVar 7) (tC (.int 0))) (tCons (tOp (rIxT K) (tVar 7) (tC (.int 1))) tNil))))) (tDrop (tBM K "list" rAppend (tVar 4) (tCons (tMeth (He.ga K "Floor") "_covered" (sp_Floor_p_covered K) [] E0 (tVar 0) (tCons (tLst (tCons (tTup (tCons (tVar 5) (tCons (tVar 6) tNil))) (tCons (tVar 7) tNil))) tNil)) tNil))) tNext))) (tRet (tVar 4)))))
theorem len_Floor_m_moves {K : PySem.W.Frag} {vs : List V} {H : Hp} {Q : VK} {E : XK} (h : sp_Floor_m_moves K vs H Q E) : vs.length = 2 := by
  obtain ⟨_, _, _, _, rfl, _⟩ := h; rfl
theorem pure_Floor_m_moves {K : PySem.W.Frag} (F : FFloor K) (G : FSHAPES K) (vs : List V) (H : Hp) (Q : VK) (E : XK) (h : sp_Floor_m_moves K vs H Q E) : t_Floor_m_moves K E { nx := fun _ H' => Q .non H', rt := Q } (start N_Floor_m_moves vs) H := by
  obtain ⟨b, s, rs, w, rfl, hs, hB, ok, q⟩ := h
  obtain ⟨dx, t, hb, ht⟩ := id hB
  have mv : PySem.W.nsIn K (He.ga K "SHAPES") s = some (some (.ref (kdA K "SHAPES" s))) ∧ ∀ H, SqT K H (kdA K "SHAPES" s) [.int ((dnF s : Nat) : Int), .int ((rtF s : Nat) : Int)] := by
    rcases hs with rfl | rfl
    · exact G.l
    · exact G.r
  unfold t_Floor_m_moves
  obtain ⟨cl, na⟩ := F
  have n6 := ok.n6
  have w6 := ok.w6
  repeat walk_at "mst"
  refine k_kd mv ?_
  refine k_gtup (mv.2 H) rfl ?_
  repeat walk_at "mst"
  walk_at "new"; rename_i fp nfp H1 e1 s1
  have hb1 := e1 _ _ hb
  repeat walk_at "mst"
  refine ⟨b, dx, _, rfl, hb1, gfl_no _ (by decide +kernel), ?_⟩
  repeat walk_at "mst"
  refine use_cells (hB.ex e1) ok fun C cs H2 nC e2 hC ac => ?_
  have f2 := e2 _ _ s1
  have cl36 : cs.length ≤ 36 := by
    rw [ac.1, cellL_len]
    exact Nat.mul_le_mul n6 w6
  have nCf : C ≠ fp := fun h => by rw [h, s1] at nC; cases nC
  refine ⟨C, rfl, ⟨_, k_sq hC⟩, forK_list (xs := cs) (fun k σ H' => ∃ (zs : List V) (x5 x6 x7 : Option V), (∀ c o, H2 c = some o → c ≠ fp → H' c = some o) ∧ H' fp = some (.lst zs) ∧ BsL K H' zs (((cellL rs.length w).take k).flatMap fun c => mvAtL s rs c.1 c.2) ∧ σ = [some (.ref b), some (.str s), some (.int ((dnF s : Nat) : Int)), some (.int ((rtF s : Nat) : Int)), some (.ref fp), x5, x6, x7]) ⟨[], none, none, none, fun _ _ h _ => h, f2, .nil, rfl⟩ ?_ ?_ ?_⟩
  · rintro k σ H3 _ ⟨zs, x5, x6, x7, kp, _⟩; exact k_sq (kp _ _ hC nCf)
  · rintro k x σ H3 hx ⟨zs, x5, x6, x7, kp, hf, bs, rfl⟩
    have hk := (List.getElem?_eq_some_iff.mp hx).1
    have hc : (cellL rs.length w)[k]? = some ((cellL rs.length w)[k]'(by rw [← ac.1]; exact hk)) := List.getElem?_eq_getElem _
    generalize (cellL rs.length w)[k]'(by rw [← ac.1]; exact hk) = c at hc
    obtain ⟨i, j⟩ := c
    obtain ⟨y, hy, a, rfl, ha⟩ := ac.2 k _ hc
    rw [hx] at hy
    cases hy
    have naf : a ≠ fp := fun h => by subst h; rw [f2] at ha; cases ha
    have ha3 := kp _ _ ha naf
    have kpH : Ex H H3 := fun c o z => kp c o (e2 _ _ (e1 _ _ z)) (ne_of_none z nfp)
    have rsn : ((cellL rs.length w).take (k + 1)).flatMap (fun c => mvAtL s rs c.1 c.2) = ((cellL rs.length w).take k).flatMap (fun c => mvAtL s rs c.1 c.2) ++ mvAtL s rs i j := by
      rw [List.take_add_one, hc, List.flatMap_append]
      simp
    have zl : zs.length ≤ 36 := by
      rw [bs.1]
      have := flat_len2 (fun c : Nat × Nat => mvAtL s rs c.1 c.2) (fun c => mvAtL_len s rs c.1 c.2) ((cellL rs.length w).take k)
      have h2 : ((cellL rs.length w).take k).length ≤ 36 := by rw [List.length_take, ← ac.1]; omega
      omega
    rw [rsn]
    refine k_gtup (k_st ha3) rfl ?_
    repeat walk_at "mst"
    rw [show (i : Int) + ((dnF s : Nat) : Int) = ((i + dnF s : Nat) : Int) by omega, show (j : Int) + ((rtF s : Nat) : Int) = ((j + rtF s : Nat) : Int) by omega]
    walk_at "new"; rename_i sp nsp H4 e4 s4
    have kpH4 := kpH.trans e4
    have hf4 := e4 _ _ hf
    repeat walk_at "mst"
    refine ⟨b, dx, _, rfl, kpH4 _ _ hb, gfl_no _ (by decide +kernel), ?_⟩
    repeat walk_at "mst"
    refine use_free (hB.ex kpH4) ok ?_
    have skip : mvAtL s rs i j = [] → ∃ (zs' : List V) (x5 x6 x7 : Option V), (∀ c o, H2 c = some o → c ≠ fp → H4 c = some o) ∧ H4 fp = some (.lst zs') ∧ BsL K H4 zs' (((cellL rs.length w).take k).flatMap (fun c => mvAtL s rs c.1 c.2) ++ mvAtL s rs i j) ∧ [some (V.ref b), some (.str s), some (.int ((dnF s : Nat) : Int)), some (.int ((rtF s : Nat) : Int)), some (.ref fp), some (.int (i : Int)), some (.int (j : Int)), some (.ref sp)] = [some (.ref b), some (.str s), some (.int ((dnF s : Nat) : Int)), some (.int ((rtF s : Nat) : Int)), some (.ref fp), x5, x6, x7] := fun em => by
      rw [em, List.append_nil]
      exact ⟨zs, _, _, _, fun c o z n => e4 _ _ (kp c o z n), hf4, bs.imp fun y c q => q.ex e4, rfl⟩
    cases f1 : fre rs i j
    · repeat walk_at "mst"
      exact skip (by unfold mvAtL; rw [if_neg fun h => by rw [f1] at h; exact Bool.noConfusion h.1])
    repeat walk_at "mst"
    refine ⟨b, dx, _, rfl, kpH4 _ _ hb, gfl_no _ (by decide +kernel), ?_⟩
    repeat walk_at "mst"
    refine use_free (hB.ex kpH4) ok ?_
    cases g1 : fre rs (i + dnF s) (j + rtF s)
    · repeat walk_at "mst"
      exact skip (by unfold mvAtL; rw [if_neg fun h => by rw [g1] at h; exact Bool.noConfusion h.2])
    have em : mvAtL s rs i j = [cov (cov rs i j) (i + dnF s) (j + rtF s)] := by unfold mvAtL; rw [if_pos ⟨f1, g1⟩]
    rw [em]
    repeat walk_at "mst"
    refine ⟨b, dx, _, rfl, kpH4 _ _ hb, gfl_no _ (by decide +kernel), ?_⟩
    repeat walk_at "mst"
    walk_at "new"; rename_i u1 nu1 H5 e5 s5
    repeat walk_at "mst"
    walk_at "new"; rename_i u2 nu2 H6 e6 s6
    have e46 := e5.trans e6
    repeat walk_at "mst"
    refine use_covered (hB.ex (kpH4.trans e46)) ok s6 (e6 _ _ s5) (e46 _ _ s4) (fre_in ok f1) (fre_in ok g1) fun x H7 nx e7 hx => ?_
    have e47 := e46.trans e7
    have hf7 := e47 _ _ hf4
    have bs7 := (bs.imp fun y c q => q.ex (e4.trans e47)).app (.one (P := FlV K) ⟨x, rfl, hx⟩)
    repeat walk_at "mst"
    · exact fits' (by omega)
    refine ⟨zs ++ [V.ref x], _, _, _, fun c o z n => (upd_ne n).trans (e47 _ _ (e4 _ _ (kp c o z n))), upd_same, ?_, rfl⟩
    exact bs7.imp fun y c q => q.keep (H' := upd H7 fp (HO.lst (zs ++ [V.ref x]))) fun c o q n => (upd_ne fun e => n _ (by rw [e, hf7] at q; exact (Option.some.inj q).symm)).trans q
  · rintro σ H3 ⟨zs, x5, x6, x7, kp, hf, bs, rfl⟩
    rw [List.take_of_length_le (by rw [← ac.1]; exact Nat.le_refl _), ← mvsL_cells] at bs
    repeat walk_at "mst"
    exact q fp zs H3 nfp (fun c o z => kp c o (e2 _ _ (e1 _ _ z)) (ne_of_none z nfp)) hf bs
theorem use_flmoves {K : PySem.W.Frag} {H : Hp} {Q : VK} {E : XK} {b : Addr} {s : Str} {rs : Fl} {w : Nat} (hs : s = "left" ∨ s = "right") (h : FlAt K H b rs) (ok : OkF rs w) (q : ∀ p ys H', H p = none → Ex H H' → H' p = some (.lst ys) → BsL K H' ys (mvsL s w rs) → Q (.ref p) H') : sp_Floor_m_moves K (.ref b :: ([.str s] ++ [])) H Q E := ⟨b, s, rs, w, rfl, hs, h, ok, q⟩
def sp_law_counts (K : PySem.W.Frag) : Sp := fun vs H Q _ => ∃ (b t : Addr) (s : Str) (rs : Fl) (w : Nat), vs = [.ref b, .ref t, .str s] ∧ (s = "left" ∨ s = "right") ∧ FlAt K H b rs ∧ OkF rs w ∧ H t = some (.tup (rowsV rs)) ∧ ∀ H', Ex H H' → Q (.bl true) H'
theorem rowsV_inj : ∀ {a b : Fl}, rowsV a = rowsV b → a = b
  | [], [], _ => rfl
  | r :: a, q :: b, h => by
    unfold rowsV at h
    rw [List.map_cons, List.map_cons] at h
    injection h with h1 h2
    injection h1 with h1
    rw [tx_inj.mp h1, rowsV_inj h2]
  | [], _ :: _, h => by cases h
  | _ :: _, [], h => by cases h
theorem gfl_inj {t u : Addr} (h : gfl t = gfl u) : t = u := by
  have h : (gfl t).lookup ("_rows" : Str) = (gfl u).lookup ("_rows" : Str) := by rw [h]
  rw [gfl_get, gfl_get] at h
  injection h with h
  injection h
theorem FlV.one {K : PySem.W.Frag} {H : Hp} {v : V} {a b : Fl} (h1 : FlV K H v a) (h2 : FlV K H v b) : a = b := by
  obtain ⟨x, rfl, dx, t, hx, ht⟩ := h1
  obtain ⟨y, e, dy, u, hy, hu⟩ := h2
  injection e with e
  subst e
  rw [hx] at hy
  injection hy with hy
  injection hy with _ _ hy
  have := gfl_inj hy
  subst this
  rw [ht] at hu
  injection hu with hu
  injection hu with hu
  exact rowsV_inj hu
open Classical in
noncomputable def lenM (K : PySem.W.Frag) (s : Str) (H : Hp) (v : V) : Option V := if h : ∃ P, FlV K H v P then some (.int ((mvsL s (wdF (Classical.choose h)) (Classical.choose h)).length : Int)) else none
theorem lenM_at {K : PySem.W.Frag} {s : Str} {H : Hp} {v : V} {P : Fl} (h : FlV K H v P) : lenM K s H v = some (.int ((mvsL s (wdF P) P).length : Int)) := by
  unfold lenM
  have ex : ∃ P, FlV K H v P := ⟨P, h⟩
  rw [dif_pos ex, FlV.one (Classical.choose_spec ex) h]
theorem lenM_list {K : PySem.W.Frag} {s : Str} {H : Hp} : ∀ {xs : List V} {ls : List Fl}, BsL K H xs ls → xs.filterMap (lenM K s H) = (castL (ls.map fun P => (mvsL s (wdF P) P).length)).map V.int
  | [], [], _ => rfl
  | x :: xs, l :: ls, h => by
    obtain ⟨h1, h2⟩ := h.tail
    rw [List.filterMap_cons, lenM_at h1, lenM_list h2]
    rfl
  | [], _ :: _, h => absurd h.1 (by simp)
  | _ :: _, [], h => absurd h.1 (by simp)
theorem sum_cast : ∀ l : List Nat, (castL l).sum = (l.sum : Int)
  | [] => rfl
  | a :: l => by
    have ih := sum_cast l
    unfold castL at ih ⊢
    rw [List.map_cons, List.sum_cons, List.sum_cons, ih]
    omega
abbrev N_law_counts : List Str := ["board", "rows", "side", "due", "part"]
def t_law_counts (K : PySem.W.Frag) (E : XK) : TS := (tSeq (tAsg (tCB (rLenQ K) (tCons (tCall (sp_law_floor_moves K) [] E0 (tCons (tVar 1) (tCons (tVar 2) tNil))) tNil)) (gName 3)) (tRet (tAndV (tOp rEq (tCB (rLenQ K) (tCons (tMeth (He.ga K "Floor") "moves" (sp_Floor_m_moves K) [] E0 (tVar 0) (tCons (tVar 2) tNil)) tNil)) (tVar 3)) (tOp rEq (tCB (rSum K) (tCons (tLc (iList K (tMeth (He.ga K "Floor") "parts" (sp_Floor_m_parts K) [] E0 (tVar 0) tNil)) (gName 4) tYes (tCB (rLenQ K) (tCons (tMeth (He.ga K "Floor") "moves" (sp_Floor_m_moves K) [] E0 (tVar 4) (tCons (tVar 2) tNil)) tNil)) [4]) tNil)) (tVar 3)))))
theorem len_law_counts {K : PySem.W.Frag} {vs : List V} {H : Hp} {Q : VK} {E : XK} (h : sp_law_counts K vs H Q E) : vs.length = 3 := by
  obtain ⟨_, _, _, _, _, rfl, _⟩ := h; rfl
theorem pure_law_counts {K : PySem.W.Frag} (vs : List V) (H : Hp) (Q : VK) (E : XK) (h : sp_law_counts K vs H Q E) : t_law_counts K E { nx := fun _ H' => Q .non H', rt := Q } (start N_law_counts vs) H := by
  obtain ⟨b, t, s, rs, w, rfl, hs, hB, ok, ht, q⟩ := h
  unfold t_law_counts
  repeat walk_at "mst"
  refine use_lmoves hs ht ok fun p1 ys1 H1 np1 e1 hp1 D1 => ?_
  have l1 := D1.1
  have hB1 := hB.ex e1
  obtain ⟨dx, tt, hI, hIt⟩ := id hB1
  repeat walk_at "mst"
  refine ⟨b, dx, _, rfl, hI, gfl_no _ (by decide +kernel), ?_⟩
  repeat walk_at "mst"
  refine use_flmoves hs hB1 ok fun p2 ys2 H2 np2 e2 hp2 B2 => ?_
  have l2 := B2.1
  have hI2 := e2 _ _ hI
  repeat walk_at "mst"
  rw [show ys2.length = ys1.length by omega, decide_eq_true rfl]
  repeat walk_at "mst"
  refine ⟨b, dx, _, rfl, hI2, gfl_no _ (by decide +kernel), ?_⟩
  repeat walk_at "mst"
  refine use_flparts (hB1.ex e2) ok fun p3 ps H3 np3 e3 hp3 B3 => ?_
  have pl : ps.length ≤ 36 := by
    have h1 := B3.1
    have h2 : (partsF rs w).length ≤ (clsL rs.length w).length := by
      unfold partsF
      exact Nat.le_trans (bigS_len _) (pf_len _ _ _)
    have n6 := ok.n6
    have w6 := ok.w6
    have h3 := nodup_lenG _ (clsL 6 6) (cls_nodup rs.length w) fun c m => by
      have := mem_cls.mp m
      exact mem_cls.mpr ⟨by omega, by omega⟩
    have h4 : (clsL 6 6).length = 36 := by decide
    omega
  refine ⟨p3, rfl, ⟨_, k_sq hp3⟩, lcR_list (lenM K s H3) (k_sq hp3) (fits' (by omega)) (fun x mx => ?_) fun L H4 nL e4 hL => ?_⟩
  · intro H'' e'' RR rr
    obtain ⟨i, hi⟩ := List.getElem?_of_mem mx
    have hil := (List.getElem?_eq_some_iff.mp hi).1
    have hc := List.getElem?_eq_getElem (l := partsF rs w) (i := i) (by rw [← B3.1]; exact hil)
    obtain ⟨y, hy, at_⟩ := B3.2 i _ hc
    rw [hi] at hy
    cases hy
    have mP := List.mem_of_getElem? hc
    generalize (partsF rs w)[i]'(by rw [← B3.1]; exact hil) = P at *
    rw [lenM_at at_] at rr
    obtain ⟨v, okP⟩ := parts_okF ok mP
    obtain ⟨o, rfl, hO⟩ := at_.ex e''
    obtain ⟨dx2, t2, hI3, _⟩ := id hO
    repeat walk_at "mst"
    refine ⟨rfl, ?_⟩
    unfold tYes
    repeat walk_at "mst"
    refine ⟨o, dx2, _, rfl, hI3, gfl_no _ (by decide +kernel), ?_⟩
    repeat walk_at "mst"
    refine use_flmoves hs hO okP fun p5 ys5 H5 np5 e5 hp5 B5 => ?_
    have rr := rr _ e5
    have l5 := B5.1
    rw [← wdF_eq okP] at l5
    repeat walk_at "mst"
    rw [l5]
    exact rr
  rw [lenM_list B3] at hL
  repeat walk_at "mst"
  refine ⟨L, _, rfl, k_sq hL, ?_⟩
  rw [sum_cast, sum_moves ok hs]
  repeat walk_at "mst"
  rw [show (mvsL s w rs).length = ys1.length by omega, decide_eq_true rfl]
  exact q _ (((e1.trans e2).trans e3).trans e4)
theorem use_counts {K : PySem.W.Frag} {H : Hp} {Q : VK} {E : XK} {b t : Addr} {s : Str} {rs : Fl} {w : Nat} (hs : s = "left" ∨ s = "right") (hB : FlAt K H b rs) (ok : OkF rs w) (ht : H t = some (.tup (rowsV rs))) (q : ∀ H', Ex H H' → Q (.bl true) H') : sp_law_counts K ([.ref b, .ref t, .str s] ++ []) H Q E := ⟨b, t, s, rs, w, rfl, hs, hB, ok, ht, q⟩
def sp_law (K : PySem.W.Frag) : Sp := spR (fun vs H => ∃ (a : Addr) (ns : List Int), vs = [.ref a] ∧ SqL K H a (ns.map V.int)) (fun _ _ v _ => v = .bl true)
local macro_rules | `(tactic| walk_at "new") => `(tactic| ((first | refine ⟨fits (Nat.le_of_ble_eq_true rfl), ?_⟩ | skip); intro p np; generalize hq : upd _ p _ = H1; have e1 := nx np hq; have s1 := nS hq; clear hq))
theorem told_ex9 {H H' : Hp} {p : Addr} (np : H p = none) {H0 : Hp} (e : Ex H H0) (k : ∀ c o, H0 c = some o → c ≠ p → H' c = some o) : Ex H H' := fun c o z => k c o (e _ _ z) (ne_of_none z np)
abbrev N_law : List Str := ["script", "rows", "board", "dues", "part"]
def t_law (K : PySem.W.Frag) (E : XK) : TS := (tSeq (tAsg (tCB (rTupL K) (tCons (tCall (sp_law_rows K) [] E0 (tCons (tCall (sp_law_cell K) [] E0 (tCons (tVar 0) (tCons (tC (.int 0)) tNil))) tNil)) tNil)) (gName 1)) (tSeq (tAsg (tMake (He.ga K "Floor") (sp_Floor_d_init K) [] E0 (tCons (tCB (rListQ K) (tCons (tVar 1) tNil)) tNil)) (gName 2)) (tSeq (tAsg (tCall (sp_law_floor_parts K) [] E0 (tCons (tVar 1) tNil)) (gName 3)) (tSeq (tIfS (tOr (tNot (tB (tCall (sp_law_told K) [] E0 (tCons (tMeth (He.ga K "Floor") "parts" (sp_Floor_m_parts K) [] E0 (tVar 2) tNil) (tCons (tVar 3) tNil))))) (tNot (tB (tCall (sp_law_told K) [] E0 (tCons (tMeth (He.ga K "Floor") "parts" (sp_Floor_m_parts K) [] E0 (tVar 2) tNil) (tCons (tVar 3) tNil)))))) (tRet (tC (.bl false))) tNext) (tSeq (tFor (iList K (tMeth (He.ga K "Floor") "parts" (sp_Floor_m_parts K) [] E0 (tVar 2) tNil)) (gName 4) (tIfS (tNot (tB (tCall (sp_law_told K) [] E0 (tCons (tMeth (He.ga K "Floor") "parts" (sp_Floor_m_parts K) [] E0 (tVar 4) tNil) (tCons (tLst (tCons (tMeth (He.ga K "Floor") "value" (sp_Floor_m_value K) [] E0 (tVar 4) tNil) tNil)) tNil))))) (tRet (tC (.bl false))) tNext)) (tSeq (tIfS (tOr (tNot (tB (tCall (sp_law_counts K) [] E0 (tCons (tVar 2) (tCons (tVar 1) (tCons (tC (.str "left")) tNil)))))) (tNot (tB (tCall (sp_law_counts K) [] E0 (tCons (tVar 2) (tCons (tVar 1) (tCons (tC (.str "right")) tNil))))))) (tRet (tC (.bl false))) tNext) (tSeq (tIfS (tAnd (tTest (tOp (rEqN K) (tMeth (He.ga K "Floor") "moves" (sp_Floor_m_moves K) [] E0 (tVar 2) (tCons (tC (.str "left")) tNil)) (tLst tNil))) (tAnd (tTest (tOp (rEqN K) (tMeth (He.ga K "Floor") "moves" (sp_Floor_m_moves K) [] E0 (tVar 2) (tCons (tC (.str "right")) tNil)) (tLst tNil))) (tTest (tOp rGtI (tCB (rLenQ K) (tCons (tVar 3) tNil)) (tC (.int 0)))))) (tRet (tC (.bl false))) tNext) (tRet (tCall (sp_law_same K 4) [] E0 (tCons (tMeth (He.ga K "Floor") "value" (sp_Floor_m_value K) [] E0 (tVar 2) tNil) (tCons (tTup (tCons (tC (.str "floor")) (tCons (tVar 1) tNil))) tNil)))))))))))
theorem len_law {K : PySem.W.Frag} {vs : List V} {H : Hp} {Q : VK} {E : XK} (h : sp_law K vs H Q E) : vs.length = 1 := by
  obtain ⟨⟨_, _, rfl, _⟩, _⟩ := h; rfl
theorem pure_law {K : PySem.W.Frag} (vs : List V) (H : Hp) (Q : VK) (E : XK) (h : sp_law K vs H Q E) : t_law K E { nx := fun _ H' => Q .non H', rt := Q } (start N_law vs) H := by
  obtain ⟨⟨a, sc, rfl, hS⟩, q⟩ := h
  have fin : ∀ b H', b = true → Q (.bl b) H' := by rintro b H' rfl; exact q _ _ rfl
  unfold t_law
  repeat walk_at "mst"
  refine use_cell hS (by decide) ?_
  generalize cellF sc 0 = c0
  repeat walk_at "mst"
  refine use_rows fun pr H1 npr e1 hpr => ?_
  have ok := rowsF_ok c0
  generalize rowsF c0 = l at *
  generalize widF c0 = w at *
  have hl := rowsV_len l
  have n1 := ok.n1
  have n6 := ok.n6
  repeat walk_at "mst"
  walk_at "new"; rename_i rt nrt H2 e2 hrt
  repeat walk_at "mst"
  walk_at "new"; rename_i pa npa H3 e3 hpa
  repeat walk_at "mst"
  refine mk_fl (k_sq hpa) ok fun b H4 nb e4 hB => ?_
  have hrt4 := e4 _ _ (e3 _ _ hrt)
  repeat walk_at "mst"
  refine use_lfparts hrt4 ok fun dp ds H5 ndp e5 hdp D5 => ?_
  have hB5 := hB.ex e5
  have hrt5 := e5 _ _ hrt4
  obtain ⟨dx, bt, hI, hIt⟩ := id hB5
  have dl := D5.1
  have pl : (partsF l w).length ≤ 36 := by
    have h2 : (partsF l w).length ≤ (clsL l.length w).length := by
      unfold partsF
      exact Nat.le_trans (bigS_len _) (pf_len _ _ _)
    have w6 := ok.w6
    have h3 := nodup_lenG _ (clsL 6 6) (cls_nodup l.length w) fun c m => by
      have := mem_cls.mp m
      exact mem_cls.mpr ⟨by omega, by omega⟩
    have h4 : (clsL 6 6).length = 36 := by decide
    omega
  have okp : ∀ P ∈ partsF l w, ∃ w, OkF P w := fun P m => parts_okF ok m
  repeat walk_at "mst"
  refine ⟨b, dx, _, rfl, hI, gfl_no _ (by decide +kernel), ?_⟩
  repeat walk_at "mst"
  refine use_flparts hB5 ok fun p1 ps1 H6 np1 e6 hp1 B1 => ?_
  repeat walk_at "mst"
  refine use_fltold hp1 (k_sq (e6 _ _ hdp)) B1 (D5.imp fun y c q => q.ex e6) (by omega) okp fun H7 k7 => ?_
  have e57 := told_ex9 np1 e6 k7
  have hI7 := e57 _ _ hI
  repeat walk_at "mst"
  refine ⟨b, dx, _, rfl, hI7, gfl_no _ (by decide +kernel), ?_⟩
  repeat walk_at "mst"
  refine use_flparts (hB5.ex e57) ok fun p2 ps2 H8 np2 e8 hp2 B2 => ?_
  repeat walk_at "mst"
  refine use_fltold hp2 (k_sq (e8 _ _ (e57 _ _ hdp))) B2 (D5.imp fun y c q => q.ex (e57.trans e8)) (by omega) okp fun H9 k9 => ?_
  have e59 := e57.trans (told_ex9 np2 e8 k9)
  have hdp9 := e59 _ _ hdp
  have hrt9 := e59 _ _ hrt5
  have hB9 := hB5.ex e59
  have D9 := D5.imp fun y c q => q.ex e59
  clear hB hB5 hI hIt hI7 D5 hrt4 hrt5 hdp hp1 hp2 B1 B2 e6 k7 e57 e8 k9 e59 e5 e4 e3 e2 e1 hpa hpr hrt hS np1 np2 ndp nb npa nrt npr
  obtain ⟨dx, bt, hI, hIt⟩ := id hB9
  repeat walk_at "mst"
  refine ⟨b, dx, _, rfl, hI, gfl_no _ (by decide +kernel), ?_⟩
  repeat walk_at "mst"
  refine use_flparts hB9 ok fun p3 ps HB np3 eB hp3 B3 => ?_
  have b3l := B3.1
  refine ⟨p3, rfl, ⟨_, k_sq hp3⟩, forK_list (xs := ps) (fun i σ H' => ∃ (x4 : Option V), Ex HB H' ∧ σ = [some (.ref a), some (.ref rt), some (.ref b), some (.ref dp), x4]) ⟨none, Evl.Ex.refl _, rfl⟩ ?_ ?_ ?_⟩
  · rintro i σ H' _ ⟨_, e, _⟩; exact k_sq (e _ _ hp3)
  · rintro i x σ HC hx ⟨x4, eC, rfl⟩
    have hi := (List.getElem?_eq_some_iff.mp hx).1
    have hz := List.getElem?_eq_getElem (l := partsF l w) (i := i) (by omega)
    obtain ⟨x', hx', o, rfl, hO⟩ := B3.2 i _ hz
    rw [hx] at hx'
    cases hx'
    have mp := List.mem_of_getElem? hz
    generalize (partsF l w)[i]'(by omega) = P at *
    obtain ⟨v0, okP⟩ := okp P mp
    have oneP := parts_partF ok mp okP
    have hOC := hO.ex eC
    obtain ⟨dx2, t2, hI2, hIt2⟩ := id hOC
    repeat walk_at "mst"
    refine ⟨o, dx2, _, rfl, hI2, gfl_no _ (by decide +kernel), ?_⟩
    repeat walk_at "mst"
    refine use_flparts hOC okP fun p4 qs HD np4 eD hp4 B4 => ?_
    rw [oneP] at B4
    have hI2D := eD _ _ hI2
    repeat walk_at "mst"
    refine ⟨o, dx2, _, rfl, hI2D, gfl_no _ (by decide +kernel), ?_⟩
    repeat walk_at "mst"
    refine use_flvalue (hOC.ex eD) fun v HE eE hv => ?_
    repeat walk_at "mst"
    walk_at "new"; rename_i lv nlv HF eF hlv
    have eEF := eE.trans eF
    repeat walk_at "mst"
    refine use_fltold (eEF _ _ hp4) (k_sq hlv) (B4.imp fun y c q => q.ex eEF) (.one (hv.ex eF)) (by show 1 ≤ 2000; decide) (fun l m => by rw [List.mem_singleton.mp m]; exact ⟨_, okP⟩) fun HG kG => ?_
    have eCG := told_ex9 np4 (eD.trans eEF) kG
    repeat walk_at "mst"
    exact ⟨_, eC.trans eCG, rfl⟩
  · rintro σ HC ⟨x4, eC, rfl⟩
    have eAC := eB.trans eC
    have hBC := hB9.ex eAC
    have hrtC := eAC _ _ hrt9
    have hdpC := eAC _ _ hdp9
    clear eB hp3 B3 np3 hI hIt
    repeat walk_at "mst"
    refine use_counts (Or.inl rfl) hBC ok hrtC fun HD eD => ?_
    repeat walk_at "mst"
    refine use_counts (Or.inr rfl) (hBC.ex eD) ok (eD _ _ hrtC) fun HE eE => ?_
    have eCE := eD.trans eE
    have hBE := hBC.ex eCE
    have hrtE := eCE _ _ hrtC
    have hdpE := eCE _ _ hdpC
    obtain ⟨dx, bt, hI, hIt⟩ := id hBE
    repeat walk_at "mst"
    refine ⟨b, dx, _, rfl, hI, gfl_no _ (by decide +kernel), ?_⟩
    repeat walk_at "mst"
    refine use_flmoves (Or.inl rfl) hBE ok fun m1 bs1 HF nm1 eF hm1 B1 => ?_
    have l1 := B1.1
    repeat walk_at "mst"
    walk_at "new"; rename_i n1' nn1 HG eG hn1
    have eEG := eF.trans eG
    repeat walk_at "mst"
    refine ⟨m1, n1', bs1, rfl, rfl, eG _ _ hm1, hn1, ?_⟩
    refine ⟨_, rfl, ?_⟩
    refine k_iteD (fun z1 => ?_) (fun z1 => ?_)
    · have hIG := eEG _ _ hI
      repeat walk_at "mst"
      refine ⟨b, dx, _, rfl, hIG, gfl_no _ (by decide +kernel), ?_⟩
      repeat walk_at "mst"
      refine use_flmoves (Or.inr rfl) (hBE.ex eEG) ok fun m2 bs2 HH nm2 eH hm2 B2 => ?_
      have l2 := B2.1
      repeat walk_at "mst"
      walk_at "new"; rename_i n2' nn2 HJ eJ hn2
      have eEJ := eEG.trans (eH.trans eJ)
      repeat walk_at "mst"
      refine ⟨m2, n2', bs2, rfl, rfl, eJ _ _ hm2, hn2, ?_⟩
      refine ⟨_, rfl, ?_⟩
      refine k_iteD (fun z2 => ?_) (fun z2 => ?_)
      · have pn := part_move ok (by omega) (by omega)
        rw [pn] at dl
        have dl : ds.length = 0 := dl
        have hdpJ := eEJ _ _ hdpE
        repeat walk_at "mst"
        refine k_iteD (fun z => absurd z (by omega)) (fun _ => ?_)
        repeat walk_at "mst"
        have hBz := hBE.ex eEJ
        obtain ⟨dz, bz, hIz, hItz⟩ := id hBz
        have hrtz := eEJ _ _ hrtE
        refine ⟨b, dz, _, rfl, hIz, gfl_no _ (by decide +kernel), ?_⟩
        repeat walk_at "mst"
        refine use_flvalue hBz fun v Hy ey hv => ?_
        repeat walk_at "mst"
        walk_at "new"; rename_i vd nvd Hx ex hvd
        repeat walk_at "mst"
        refine use_same (fl_same (hv.ex ex) ⟨vd, rt, rfl, hvd, (ey.trans ex) _ _ hrtz⟩ ⟨_, ok⟩) ?_
        exact fin _ _ rfl
      · repeat walk_at "mst"
        have hBz := hBE.ex eEJ
        obtain ⟨dz, bz, hIz, hItz⟩ := id hBz
        have hrtz := eEJ _ _ hrtE
        refine ⟨b, dz, _, rfl, hIz, gfl_no _ (by decide +kernel), ?_⟩
        repeat walk_at "mst"
        refine use_flvalue hBz fun v Hy ey hv => ?_
        repeat walk_at "mst"
        walk_at "new"; rename_i vd nvd Hx ex hvd
        repeat walk_at "mst"
        refine use_same (fl_same (hv.ex ex) ⟨vd, rt, rfl, hvd, (ey.trans ex) _ _ hrtz⟩ ⟨_, ok⟩) ?_
        exact fin _ _ rfl
    · repeat walk_at "mst"
      have hBz := hBE.ex eEG
      obtain ⟨dz, bz, hIz, hItz⟩ := id hBz
      have hrtz := eEG _ _ hrtE
      refine ⟨b, dz, _, rfl, hIz, gfl_no _ (by decide +kernel), ?_⟩
      repeat walk_at "mst"
      refine use_flvalue hBz fun v Hy ey hv => ?_
      repeat walk_at "mst"
      walk_at "new"; rename_i vd nvd Hx ex hvd
      repeat walk_at "mst"
      refine use_same (fl_same (hv.ex ex) ⟨vd, rt, rfl, hvd, (ey.trans ex) _ _ hrtz⟩ ⟨_, ok⟩) ?_
      exact fin _ _ rfl
theorem hu65R {A : Around} {k : Nat} (hr : Room k A) : A.units + 65 < cLine := by have := hr.un; omega
def top (i : Nat) : Stmt := PySem.Challenge.pw_sumsplay_k59_parts_of_floors.main.body.getD i (.Pass ⟨0, 0, 0, 0⟩)
abbrev s_law_digits : Stmt := top 13
abbrev R_law_digits : List Str := ["cell", "count", "row", "k", "seed"]
theorem sc_law_digits : FnScope R_law_digits ["cell", "count"] (defScope s_law_digits) := ⟨rfl, rfl, rfl, by decide +kernel, rfl, by decide +kernel, by decide +kernel⟩
abbrev ad_law_digits (K : PySem.W.Frag) : Addr := He.ga K "_law_digits"
abbrev s_law_rows : Stmt := top 19
abbrev R_law_rows : List Str := ["cell", "digits", "wide", "often", "rows", "line", "k"]
theorem sc_law_rows : FnScope R_law_rows ["cell"] (defScope s_law_rows) := ⟨rfl, rfl, rfl, by decide +kernel, rfl, by decide +kernel, by decide +kernel⟩
abbrev ad_law_rows (K : PySem.W.Frag) : Addr := He.ga K "_law_rows"
abbrev s_law_cell : Stmt := top 12
abbrev R_law_cell : List Str := ["script", "k", "mixed", "cell"]
theorem sc_law_cell : FnScope R_law_cell ["script", "k"] (defScope s_law_cell) := ⟨rfl, rfl, rfl, by decide +kernel, rfl, by decide +kernel, by decide +kernel⟩
abbrev ad_law_cell (K : PySem.W.Frag) : Addr := He.ga K "_law_cell"
abbrev s_Floor_d_init : Stmt := inClass (top 9) 0
abbrev R_Floor_d_init : List Str := ["self", "rows", "row", "cell"]
theorem sc_Floor_d_init : FnScope R_Floor_d_init ["self", "rows"] (defScope s_Floor_d_init) := ⟨rfl, rfl, rfl, by decide +kernel, rfl, by decide +kernel, by decide +kernel⟩
abbrev ad_Floor_d_init (K : PySem.W.Frag) : Addr := He.ma K (He.ga K "Floor") "__init__"
abbrev s_law_clipped : Stmt := top 17
abbrev R_law_clipped : List Str := ["cells", "lines", "cell", "columns", "rows", "line", "row", "column"]
theorem sc_law_clipped : FnScope R_law_clipped ["cells"] (defScope s_law_clipped) := ⟨rfl, rfl, rfl, by decide +kernel, rfl, by decide +kernel, by decide +kernel⟩
abbrev ad_law_clipped (K : PySem.W.Frag) : Addr := He.ga K "_law_clipped"
abbrev s_law_floor_parts : Stmt := top 18
abbrev R_law_floor_parts : List Str := ["rows", "cells", "k", "cell", "found", "taken", "first", "part", "turn", "many", "beside", "other"]
theorem sc_law_floor_parts : FnScope R_law_floor_parts ["rows"] (defScope s_law_floor_parts) := ⟨rfl, rfl, rfl, by decide +kernel, rfl, by decide +kernel, by decide +kernel⟩
abbrev ad_law_floor_parts (K : PySem.W.Frag) : Addr := He.ga K "_law_floor_parts"
abbrev s_law_same : Stmt := top 14
abbrev R_law_same : List Str := ["told", "due", "k"]
theorem sc_law_same : FnScope R_law_same ["told", "due"] (defScope s_law_same) := ⟨rfl, rfl, rfl, by decide +kernel, rfl, by decide +kernel, by decide +kernel⟩
abbrev ad_law_same (K : PySem.W.Frag) : Addr := He.ga K "_law_same"
abbrev s_Floor_m_value : Stmt := inClass (top 9) 2
abbrev R_Floor_m_value : List Str := ["self"]
theorem sc_Floor_m_value : FnScope R_Floor_m_value ["self"] (defScope s_Floor_m_value) := ⟨rfl, rfl, rfl, by decide +kernel, rfl, by decide +kernel, by decide +kernel⟩
abbrev ad_Floor_m_value (K : PySem.W.Frag) : Addr := He.ma K (He.ga K "Floor") "value"
abbrev s_law_told : Stmt := top 20
abbrev R_law_told : List Str := ["boards", "dues", "k"]
theorem sc_law_told : FnScope R_law_told ["boards", "dues"] (defScope s_law_told) := ⟨rfl, rfl, rfl, by decide +kernel, rfl, by decide +kernel, by decide +kernel⟩
abbrev ad_law_told (K : PySem.W.Frag) : Addr := He.ga K "_law_told"
abbrev s_Floor_p_cells : Stmt := inClass (top 9) 4
abbrev R_Floor_p_cells : List Str := ["self", "row", "column"]
theorem sc_Floor_p_cells : FnScope R_Floor_p_cells ["self"] (defScope s_Floor_p_cells) := ⟨rfl, rfl, rfl, by decide +kernel, rfl, by decide +kernel, by decide +kernel⟩
abbrev ad_Floor_p_cells (K : PySem.W.Frag) : Addr := He.ma K (He.ga K "Floor") "_cells"
abbrev s_Floor_p_is_free : Stmt := inClass (top 9) 5
abbrev R_Floor_p_is_free : List Str := ["self", "row", "column"]
theorem sc_Floor_p_is_free : FnScope R_Floor_p_is_free ["self", "row", "column"] (defScope s_Floor_p_is_free) := ⟨rfl, rfl, rfl, by decide +kernel, rfl, by decide +kernel, by decide +kernel⟩
abbrev ad_Floor_p_is_free (K : PySem.W.Frag) : Addr := He.ma K (He.ga K "Floor") "_is_free"
abbrev s_Floor_p_together : Stmt := inClass (top 9) 7
abbrev R_Floor_p_together : List Str := ["self", "cell", "found", "waiting", "row", "column", "down", "right", "beside"]
theorem sc_Floor_p_together : FnScope R_Floor_p_together ["self", "cell"] (defScope s_Floor_p_together) := ⟨rfl, rfl, rfl, by decide +kernel, rfl, by decide +kernel, by decide +kernel⟩
abbrev ad_Floor_p_together (K : PySem.W.Frag) : Addr := He.ma K (He.ga K "Floor") "_together"
abbrev s_rectangle : Stmt := top 10
abbrev R_rectangle : List Str := ["cells", "rows", "row", "_", "columns", "column", "found", "signs"]
theorem sc_rectangle : FnScope R_rectangle ["cells"] (defScope s_rectangle) := ⟨rfl, rfl, rfl, by decide +kernel, rfl, by decide +kernel, by decide +kernel⟩
abbrev ad_rectangle (K : PySem.W.Frag) : Addr := He.ga K "_rectangle"
abbrev s_Floor_m_parts : Stmt := inClass (top 9) 3
abbrev R_Floor_m_parts : List Str := ["self", "found", "seen", "row", "column", "together", "cell"]
theorem sc_Floor_m_parts : FnScope R_Floor_m_parts ["self"] (defScope s_Floor_m_parts) := ⟨rfl, rfl, rfl, by decide +kernel, rfl, by decide +kernel, by decide +kernel⟩
abbrev ad_Floor_m_parts (K : PySem.W.Frag) : Addr := He.ma K (He.ga K "Floor") "parts"
abbrev s_law_covered : Stmt := top 15
abbrev R_law_covered : List Str := ["rows", "line", "column", "row"]
theorem sc_law_covered : FnScope R_law_covered ["rows", "line", "column"] (defScope s_law_covered) := ⟨rfl, rfl, rfl, by decide +kernel, rfl, by decide +kernel, by decide +kernel⟩
abbrev ad_law_covered (K : PySem.W.Frag) : Addr := He.ga K "_law_covered"
abbrev s_law_floor_moves : Stmt := top 16
abbrev R_law_floor_moves : List Str := ["rows", "side", "down", "found", "line", "column", "one"]
theorem sc_law_floor_moves : FnScope R_law_floor_moves ["rows", "side"] (defScope s_law_floor_moves) := ⟨rfl, rfl, rfl, by decide +kernel, rfl, by decide +kernel, by decide +kernel⟩
abbrev ad_law_floor_moves (K : PySem.W.Frag) : Addr := He.ga K "_law_floor_moves"
abbrev s_Floor_p_covered : Stmt := inClass (top 9) 6
abbrev R_Floor_p_covered : List Str := ["self", "cells", "rows", "row", "column"]
theorem sc_Floor_p_covered : FnScope R_Floor_p_covered ["self", "cells"] (defScope s_Floor_p_covered) := ⟨rfl, rfl, rfl, by decide +kernel, rfl, by decide +kernel, by decide +kernel⟩
abbrev ad_Floor_p_covered (K : PySem.W.Frag) : Addr := He.ma K (He.ga K "Floor") "_covered"
abbrev s_Floor_m_moves : Stmt := inClass (top 9) 1
abbrev R_Floor_m_moves : List Str := ["self", "side", "down", "right", "found", "row", "column", "second"]
theorem sc_Floor_m_moves : FnScope R_Floor_m_moves ["self", "side"] (defScope s_Floor_m_moves) := ⟨rfl, rfl, rfl, by decide +kernel, rfl, by decide +kernel, by decide +kernel⟩
abbrev ad_Floor_m_moves (K : PySem.W.Frag) : Addr := He.ma K (He.ga K "Floor") "moves"
abbrev s_law_counts : Stmt := top 21
abbrev R_law_counts : List Str := ["board", "rows", "side", "due", "part"]
theorem sc_law_counts : FnScope R_law_counts ["board", "rows", "side"] (defScope s_law_counts) := ⟨rfl, rfl, rfl, by decide +kernel, rfl, by decide +kernel, by decide +kernel⟩
abbrev ad_law_counts (K : PySem.W.Frag) : Addr := He.ga K "_law_counts"
abbrev s_law : Stmt := top 22
abbrev R_law : List Str := ["script", "rows", "board", "dues", "part"]
theorem sc_law : FnScope R_law ["script"] (defScope s_law) := ⟨rfl, rfl, rfl, by decide +kernel, rfl, by decide +kernel, by decide +kernel⟩
abbrev ad_law (K : PySem.W.Frag) : Addr := He.ga K "law"
structure Txt (w : World) (K : PySem.W.Frag) (mg : Str → Option Value) : Prop where
  kd_SHAPES : ∃ es n, KDict K w (He.ga K "SHAPES") es n
  g_BadValue : mg "BadValue" = some (.ref (He.ga K "BadValue"))
  g_Floor : mg "Floor" = some (.ref (He.ga K "Floor"))
  g_NEXT_CELLS : mg "NEXT_CELLS" = some (.ref (He.ga K "NEXT_CELLS"))
  g_SHAPES : mg "SHAPES" = some (.ref (He.ga K "SHAPES"))
  g__law_cell : mg "_law_cell" = some (.ref (He.ga K "_law_cell"))
  g__law_clipped : mg "_law_clipped" = some (.ref (He.ga K "_law_clipped"))
  g__law_counts : mg "_law_counts" = some (.ref (He.ga K "_law_counts"))
  g__law_covered : mg "_law_covered" = some (.ref (He.ga K "_law_covered"))
  g__law_digits : mg "_law_digits" = some (.ref (He.ga K "_law_digits"))
  g__law_floor_moves : mg "_law_floor_moves" = some (.ref (He.ga K "_law_floor_moves"))
  g__law_floor_parts : mg "_law_floor_parts" = some (.ref (He.ga K "_law_floor_parts"))
  g__law_rows : mg "_law_rows" = some (.ref (He.ga K "_law_rows"))
  g__law_same : mg "_law_same" = some (.ref (He.ga K "_law_same"))
  g__law_told : mg "_law_told" = some (.ref (He.ga K "_law_told"))
  g__rectangle : mg "_rectangle" = some (.ref (He.ga K "_rectangle"))
  g_law : mg "law" = some (.ref (He.ga K "law"))
  z_abs : mg "abs" = none
  z_all : mg "all" = none
  z_bool : mg "bool" = none
  z_int : mg "int" = none
  z_isinstance : mg "isinstance" = none
  z_len : mg "len" = none
  z_list : mg "list" = none
  z_max : mg "max" = none
  z_min : mg "min" = none
  z_range : mg "range" = none
  z_str : mg "str" = none
  z_sum : mg "sum" = none
  z_tuple : mg "tuple" = none
  z_type : mg "type" = none
  c_COVERED : ∃ t, mg "COVERED" = some (.str "#" t)
  c_FREE : ∃ t, mg "FREE" = some (.str "." t)
  c_MOST_CELLS : ∃ t, mg "MOST_CELLS" = some (.int (6) t)
  tx_NEXT_CELLS : Tup2 K (He.ga K "NEXT_CELLS") [[V.int (-1), V.int (0)], [V.int (0), V.int (-1)], [V.int (0), V.int (1)], [V.int (1), V.int (0)]]
  tk_SHAPES_left : PySem.W.nsIn K (He.ga K "SHAPES") "left" = some (some (.ref (kdA K "SHAPES" "left"))) ∧ ∀ H, SqT K H (kdA K "SHAPES" "left") [V.int (1), V.int (0)]
  tk_SHAPES_right : PySem.W.nsIn K (He.ga K "SHAPES") "right" = some (some (.ref (kdA K "SHAPES" "right"))) ∧ ∀ H, SqT K H (kdA K "SHAPES" "right") [V.int (0), V.int (1)]
  cl_Floor : Cls K (He.ga K "Floor")
  x_BadValue : PySem.W.excIn K (He.ga K "BadValue") He.veBase "ValueError.__new__" = true ∧ PySem.W.keepIn K (.ref (He.ga K "BadValue")) = true ∧ PySem.W.subIn K (.ref (He.ga K "BadValue")) (.type "BaseException") = some true ∧ PySem.W.typeIn K (.ref (He.ga K "BadValue")) = some (.type "type")
  ic_Floor : C8.InsC K (He.ga K "Floor")
  mt_Floor__cells : Meth K (He.ga K "Floor") "_cells" (He.ma K (He.ga K "Floor") "_cells")
  mt_Floor__covered : Meth K (He.ga K "Floor") "_covered" (He.ma K (He.ga K "Floor") "_covered")
  mt_Floor__is_free : Meth K (He.ga K "Floor") "_is_free" (He.ma K (He.ga K "Floor") "_is_free")
  mt_Floor__together : Meth K (He.ga K "Floor") "_together" (He.ma K (He.ga K "Floor") "_together")
  mt_Floor_moves : Meth K (He.ga K "Floor") "moves" (He.ma K (He.ga K "Floor") "moves")
  mt_Floor_parts : Meth K (He.ga K "Floor") "parts" (He.ma K (He.ga K "Floor") "parts")
  mt_Floor_value : Meth K (He.ga K "Floor") "value" (He.ma K (He.ga K "Floor") "value")
  mk_Floor : Mk K (He.ga K "Floor") (He.ma K (He.ga K "Floor") "__init__")
  na_Floor__rows : NoAttr K (He.ga K "Floor") "_rows"
  d_law_digits : ∃ fd, FunD K "_law_digits" "_law_digits" (defArgs s_law_digits) (defBody s_law_digits) (defScope s_law_digits) [] [] (ad_law_digits K) fd
  d_law_rows : ∃ fd, FunD K "_law_rows" "_law_rows" (defArgs s_law_rows) (defBody s_law_rows) (defScope s_law_rows) [] [] (ad_law_rows K) fd
  d_law_cell : ∃ fd, FunD K "_law_cell" "_law_cell" (defArgs s_law_cell) (defBody s_law_cell) (defScope s_law_cell) [] [] (ad_law_cell K) fd
  d_Floor_d_init : ∃ fd, FunD K "__init__" "Floor.__init__" (defArgs s_Floor_d_init) (defBody s_Floor_d_init) (defScope s_Floor_d_init) [] [] (ad_Floor_d_init K) fd
  d_law_clipped : ∃ fd, FunD K "_law_clipped" "_law_clipped" (defArgs s_law_clipped) (defBody s_law_clipped) (defScope s_law_clipped) [] [] (ad_law_clipped K) fd
  d_law_floor_parts : ∃ fd, FunD K "_law_floor_parts" "_law_floor_parts" (defArgs s_law_floor_parts) (defBody s_law_floor_parts) (defScope s_law_floor_parts) [] [] (ad_law_floor_parts K) fd
  d_law_same : ∃ fd, FunD K "_law_same" "_law_same" (defArgs s_law_same) (defBody s_law_same) (defScope s_law_same) [] [] (ad_law_same K) fd
  d_Floor_m_value : ∃ fd, FunD K "value" "Floor.value" (defArgs s_Floor_m_value) (defBody s_Floor_m_value) (defScope s_Floor_m_value) [] [] (ad_Floor_m_value K) fd
  d_law_told : ∃ fd, FunD K "_law_told" "_law_told" (defArgs s_law_told) (defBody s_law_told) (defScope s_law_told) [] [] (ad_law_told K) fd
  d_Floor_p_cells : ∃ fd, FunD K "_cells" "Floor._cells" (defArgs s_Floor_p_cells) (defBody s_Floor_p_cells) (defScope s_Floor_p_cells) [] [] (ad_Floor_p_cells K) fd
  d_Floor_p_is_free : ∃ fd, FunD K "_is_free" "Floor._is_free" (defArgs s_Floor_p_is_free) (defBody s_Floor_p_is_free) (defScope s_Floor_p_is_free) [] [] (ad_Floor_p_is_free K) fd
  d_Floor_p_together : ∃ fd, FunD K "_together" "Floor._together" (defArgs s_Floor_p_together) (defBody s_Floor_p_together) (defScope s_Floor_p_together) [] [] (ad_Floor_p_together K) fd
  d_rectangle : ∃ fd, FunD K "_rectangle" "_rectangle" (defArgs s_rectangle) (defBody s_rectangle) (defScope s_rectangle) [] [] (ad_rectangle K) fd
  d_Floor_m_parts : ∃ fd, FunD K "parts" "Floor.parts" (defArgs s_Floor_m_parts) (defBody s_Floor_m_parts) (defScope s_Floor_m_parts) [] [] (ad_Floor_m_parts K) fd
  d_law_covered : ∃ fd, FunD K "_law_covered" "_law_covered" (defArgs s_law_covered) (defBody s_law_covered) (defScope s_law_covered) [] [] (ad_law_covered K) fd
  d_law_floor_moves : ∃ fd, FunD K "_law_floor_moves" "_law_floor_moves" (defArgs s_law_floor_moves) (defBody s_law_floor_moves) (defScope s_law_floor_moves) [] [] (ad_law_floor_moves K) fd
  d_Floor_p_covered : ∃ fd, FunD K "_covered" "Floor._covered" (defArgs s_Floor_p_covered) (defBody s_Floor_p_covered) (defScope s_Floor_p_covered) [] [] (ad_Floor_p_covered K) fd
  d_Floor_m_moves : ∃ fd, FunD K "moves" "Floor.moves" (defArgs s_Floor_m_moves) (defBody s_Floor_m_moves) (defScope s_Floor_m_moves) [] [] (ad_Floor_m_moves K) fd
  d_law_counts : ∃ fd, FunD K "_law_counts" "_law_counts" (defArgs s_law_counts) (defBody s_law_counts) (defScope s_law_counts) [] [] (ad_law_counts K) fd
  d_law : ∃ fd, FunD K "law" "law" (defArgs s_law) (defBody s_law) (defScope s_law) [] [] (ad_law K) fd
theorem Txt.FFloor {w : World} {K : PySem.W.Frag} {mg : Str → Option Value} (T : Txt w K mg) : FFloor K := ⟨T.cl_Floor, T.na_Floor__rows⟩
theorem Txt.FSHAPES {w : World} {K : PySem.W.Frag} {mg : Str → Option Value} (T : Txt w K mg) : FSHAPES K := ⟨T.tk_SHAPES_left, T.tk_SHAPES_right⟩
theorem Txt.FNEXT {w : World} {K : PySem.W.Frag} {mg : Str → Option Value} (T : Txt w K mg) : FNEXT K := ⟨T.tx_NEXT_CELLS⟩
abbrev O_law_digits (P : Program) (w : World) (K : PySem.W.Frag) (mg : Str → Option Value) (base : Heap) : Prop := DefOk P w K mg base CX0 1 "_law_digits" "_law_digits" s_law_digits [] (ad_law_digits K) ["cell", "count"] (sp_law_digits K)
abbrev O_law_rows (P : Program) (w : World) (K : PySem.W.Frag) (mg : Str → Option Value) (base : Heap) : Prop := DefOk P w K mg base CX0 2 "_law_rows" "_law_rows" s_law_rows [] (ad_law_rows K) ["cell"] (sp_law_rows K)
abbrev O_law_cell (P : Program) (w : World) (K : PySem.W.Frag) (mg : Str → Option Value) (base : Heap) : Prop := DefOk P w K mg base CX0 1 "_law_cell" "_law_cell" s_law_cell [] (ad_law_cell K) ["script", "k"] (sp_law_cell K)
abbrev O_Floor_d_init (P : Program) (w : World) (K : PySem.W.Frag) (mg : Str → Option Value) (base : Heap) : Prop := DefOk P w K mg base (L2.CX P w) 1 "__init__" "Floor.__init__" s_Floor_d_init [] (ad_Floor_d_init K) ["self", "rows"] (sp_Floor_d_init K)
abbrev O_law_clipped (P : Program) (w : World) (K : PySem.W.Frag) (mg : Str → Option Value) (base : Heap) : Prop := DefOk P w K mg base CX0 1 "_law_clipped" "_law_clipped" s_law_clipped [] (ad_law_clipped K) ["cells"] (sp_law_clipped K)
abbrev O_law_floor_parts (P : Program) (w : World) (K : PySem.W.Frag) (mg : Str → Option Value) (base : Heap) : Prop := DefOk P w K mg base CX0 2 "_law_floor_parts" "_law_floor_parts" s_law_floor_parts [] (ad_law_floor_parts K) ["rows"] (sp_law_floor_parts K)
abbrev O_law_same (P : Program) (w : World) (K : PySem.W.Frag) (mg : Str → Option Value) (base : Heap) : Prop := DefOk P w K mg base CX0 5 "_law_same" "_law_same" s_law_same [] (ad_law_same K) ["told", "due"] (sp_law_same K 4)
abbrev O_Floor_m_value (P : Program) (w : World) (K : PySem.W.Frag) (mg : Str → Option Value) (base : Heap) : Prop := DefOk P w K mg base CX0 1 "value" "Floor.value" s_Floor_m_value [] (ad_Floor_m_value K) ["self"] (sp_Floor_m_value K)
abbrev O_law_told (P : Program) (w : World) (K : PySem.W.Frag) (mg : Str → Option Value) (base : Heap) : Prop := DefOk P w K mg base CX0 6 "_law_told" "_law_told" s_law_told [] (ad_law_told K) ["boards", "dues"] (sp_law_told K)
abbrev O_Floor_p_cells (P : Program) (w : World) (K : PySem.W.Frag) (mg : Str → Option Value) (base : Heap) : Prop := DefOk P w K mg base CX0 1 "_cells" "Floor._cells" s_Floor_p_cells [] (ad_Floor_p_cells K) ["self"] (sp_Floor_p_cells K)
abbrev O_Floor_p_is_free (P : Program) (w : World) (K : PySem.W.Frag) (mg : Str → Option Value) (base : Heap) : Prop := DefOk P w K mg base CX0 1 "_is_free" "Floor._is_free" s_Floor_p_is_free [] (ad_Floor_p_is_free K) ["self", "row", "column"] (sp_Floor_p_is_free K)
abbrev O_Floor_p_together (P : Program) (w : World) (K : PySem.W.Frag) (mg : Str → Option Value) (base : Heap) : Prop := DefOk P w K mg base CX0 2 "_together" "Floor._together" s_Floor_p_together [] (ad_Floor_p_together K) ["self", "cell"] (sp_Floor_p_together K)
abbrev O_rectangle (P : Program) (w : World) (K : PySem.W.Frag) (mg : Str → Option Value) (base : Heap) : Prop := DefOk P w K mg base CX0 3 "_rectangle" "_rectangle" s_rectangle [] (ad_rectangle K) ["cells"] (sp_rectangle K)
abbrev O_Floor_m_parts (P : Program) (w : World) (K : PySem.W.Frag) (mg : Str → Option Value) (base : Heap) : Prop := DefOk P w K mg base CX0 4 "parts" "Floor.parts" s_Floor_m_parts [] (ad_Floor_m_parts K) ["self"] (sp_Floor_m_parts K)
abbrev O_law_covered (P : Program) (w : World) (K : PySem.W.Frag) (mg : Str → Option Value) (base : Heap) : Prop := DefOk P w K mg base CX0 1 "_law_covered" "_law_covered" s_law_covered [] (ad_law_covered K) ["rows", "line", "column"] (sp_law_covered K)
abbrev O_law_floor_moves (P : Program) (w : World) (K : PySem.W.Frag) (mg : Str → Option Value) (base : Heap) : Prop := DefOk P w K mg base CX0 2 "_law_floor_moves" "_law_floor_moves" s_law_floor_moves [] (ad_law_floor_moves K) ["rows", "side"] (sp_law_floor_moves K)
abbrev O_Floor_p_covered (P : Program) (w : World) (K : PySem.W.Frag) (mg : Str → Option Value) (base : Heap) : Prop := DefOk P w K mg base CX0 3 "_covered" "Floor._covered" s_Floor_p_covered [] (ad_Floor_p_covered K) ["self", "cells"] (sp_Floor_p_covered K)
abbrev O_Floor_m_moves (P : Program) (w : World) (K : PySem.W.Frag) (mg : Str → Option Value) (base : Heap) : Prop := DefOk P w K mg base CX0 4 "moves" "Floor.moves" s_Floor_m_moves [] (ad_Floor_m_moves K) ["self", "side"] (sp_Floor_m_moves K)
abbrev O_law_counts (P : Program) (w : World) (K : PySem.W.Frag) (mg : Str → Option Value) (base : Heap) : Prop := DefOk P w K mg base CX0 5 "_law_counts" "_law_counts" s_law_counts [] (ad_law_counts K) ["board", "rows", "side"] (sp_law_counts K)
abbrev O_law (P : Program) (w : World) (K : PySem.W.Frag) (mg : Str → Option Value) (base : Heap) : Prop := DefOk P w K mg base CX0 7 "law" "law" s_law [] (ad_law K) ["script"] (sp_law K)
theorem ok_law_digits {P : Program} {w : World} {K : PySem.W.Frag} {mg : Str → Option Value} {base : Heap} (T : Txt w K mg)  : O_law_digits P w K mg base := by
  obtain ⟨fd, X⟩ := T.d_law_digits
  refine ⟨fd, X, X.ok sc_law_digits (fun vs H Q E h => len_law_digits h) (fun cdv A outer s H vs Q E hr h => ⟨t_law_digits K E, PSs.nox ?_, pure_law_digits vs H Q E h⟩)⟩
  exact (pss_cons (ps_set (i := 2) sc_law_digits.nd rfl (Or.inl rfl) (pe_lst pa_nil))
      (pss_cons (ps_if (pt_cmpR op_ge (pv 0) (pe_op op_pow pe_int pe_int) (nomark _)) (pss_cons (ps_for PassesOwn.never rfl (pi_range1 rfl T.z_range (pa_cons (pv 1) pa_nil)) (pg_name (i := 3) sc_law_digits.nd rfl (Or.inl rfl))
      (pss_cons (ps_expr (pe_bm PySem.F.plainAttrs_list PySem.F.slot_list_append PySem.F.type_list_append mt_append (pv 2) (pa_cons (pe_op op_mod (pe_callTy cr_intI rfl T.z_int (by decide +kernel) (pa_cons (pv 0) pa_nil)) pe_int) pa_nil)))
      (pss_one (ps_set (i := 0) sc_law_digits.nd rfl (Or.inl rfl) (pe_op op_fdiv (pv 0) pe_int)))))
      (pss_one (ps_ret (pv 2)))) pss_nil)
      (pss_cons (ps_set (i := 4) sc_law_digits.nd rfl (Or.inl rfl) (pe_op op_mod (pe_callTy cr_intI rfl T.z_int (by decide +kernel) (pa_cons (pe_op op_add (pe_op op_mul (pv 0) pe_int) pe_int) pa_nil)) pe_int))
      (pss_cons (ps_for PassesOwn.never rfl (pi_range1 rfl T.z_range (pa_cons (pv 1) pa_nil)) (pg_name (i := 3) sc_law_digits.nd rfl (Or.inl rfl))
      (pss_cons (ps_set (i := 4) sc_law_digits.nd rfl (Or.inl rfl) (pe_op op_mod (pe_callTy cr_intI rfl T.z_int (by decide +kernel) (pa_cons (pe_op op_add (pe_op op_add (pe_op op_mul (pv 4) pe_int) (pe_op op_mul pe_int (pv 3))) pe_int) pa_nil)) pe_int))
      (pss_one (ps_expr (pe_bm PySem.F.plainAttrs_list PySem.F.slot_list_append PySem.F.type_list_append mt_append (pv 2) (pa_cons (pe_op op_mod (pe_callTy cr_intI rfl T.z_int (by decide +kernel) (pa_cons (pe_op op_fdiv (pv 4) pe_int) pa_nil)) pe_int) pa_nil))))))
      (pss_one (ps_ret (pv 2)))))))
theorem ok_law_rows {P : Program} {w : World} {K : PySem.W.Frag} {mg : Str → Option Value} {base : Heap} (T : Txt w K mg) (D_law_digits : O_law_digits P w K mg base) : O_law_rows P w K mg base := by
  obtain ⟨fd_law_digits, X_law_digits, G_law_digits⟩ := D_law_digits.ex
  have K_law_digits := X_law_digits.kp
  have B_law_digits := X_law_digits.bindsN (ps := ["cell", "count"]) fun _ _ _ _ _ _ us hl => match us, hl with | [_, _], _ => rfl
  have V_law_digits : Vals [] [] := .nil
  obtain ⟨fd, X⟩ := T.d_law_rows
  refine ⟨fd, X, X.ok sc_law_rows (fun vs H Q E h => len_law_rows h) (fun cdv A outer s H vs Q E hr h => ⟨t_law_rows K E, PSs.nox ?_, pure_law_rows vs H Q E h⟩)⟩
  exact (pss_cons (ps_set (i := 1) sc_law_rows.nd rfl (Or.inr rfl) (pe_call G_law_digits (hr.mono (by decide)) rfl T.g__law_digits K_law_digits B_law_digits V_law_digits pass0 (pa_cons (pv 0) (pa_cons pe_int pa_nil))))
      (pss_cons (ps_set (i := 2) sc_law_rows.nd rfl (Or.inl rfl) (pe_op op_add pe_int (pe_op op_mod (pe_callTy cr_intI rfl T.z_int (by decide +kernel) (pa_cons (pe_ix ix_list (pv 1) pe_int (fun _ _ => rfl)) pa_nil)) pe_int)))
      (pss_cons (ps_set (i := 3) sc_law_rows.nd rfl (Or.inr rfl) (pe_op op_add pe_int (pe_op op_mod (pe_callTy cr_intI rfl T.z_int (by decide +kernel) (pa_cons (pe_ix ix_list (pv 1) pe_int (fun _ _ => rfl)) pa_nil)) pe_int)))
      (pss_cons (ps_set (i := 4) sc_law_rows.nd rfl (Or.inl rfl) (pe_lst pa_nil))
      (pss_cons (ps_for PassesOwn.never rfl (pi_range1 rfl T.z_range (pa_cons (pe_op op_add pe_int (pe_op op_mod (pe_callTy cr_intI rfl T.z_int (by decide +kernel) (pa_cons (pe_ix ix_list (pv 1) pe_int (fun _ _ => rfl)) pa_nil)) pe_int)) pa_nil)) (pg_name (i := 5) sc_law_rows.nd rfl (Or.inr rfl))
      (pss_one (ps_expr (pe_bm PySem.F.plainAttrs_list PySem.F.slot_list_append PySem.F.type_list_append mt_append (pv 4) (pa_cons (pe_bm PySem.F.plainAttrs_str PySem.F.slot_str_join PySem.F.type_str_join mt_joinS pe_str (pa_cons (pe_lc (own := [("k", 6)]) (g := (gName 6)) (tt := tYes) rfl sc_law_rows.nd (pi_range1 rfl T.z_range (pa_cons (pv 2) pa_nil)) (blkOk_by (N := R_law_rows) (sc := defScope s_law_rows) (by decide +kernel)) (fun _ _ _ _ _ => (pg_name (i := 6) sc_law_rows.nd rfl (Or.inl rfl))) (fun _ _ _ _ _ => pts_nil) (fun _ _ _ _ _ => (pe_ifExp (pt_cmpR op_eq (pe_op op_mod (pe_callTy cr_intI rfl T.z_int (by decide +kernel) (pa_cons (pe_ix ix_list (pv 1) (pe_op op_add (pe_op op_add pe_int (pe_op op_mul pe_int (pv 5))) (pv 6)) (fun _ _ => rfl)) pa_nil)) (pv 3)) pe_int (nomark _)) pe_str pe_str))) pa_nil)) pa_nil)))))
      (pss_one (ps_ret (pv 4))))))))
theorem ok_law_cell {P : Program} {w : World} {K : PySem.W.Frag} {mg : Str → Option Value} {base : Heap} (T : Txt w K mg)  : O_law_cell P w K mg base := by
  obtain ⟨fd, X⟩ := T.d_law_cell
  refine ⟨fd, X, X.ok sc_law_cell (fun vs H Q E h => len_law_cell h) (fun cdv A outer s H vs Q E hr h => ⟨t_law_cell K E, PSs.nox ?_, pure_law_cell vs H Q E h⟩)⟩
  exact (pss_cons (ps_if (pt_cmpR op_lt (pv 1) (pe_callB cr_lenQ rfl T.z_len (by decide +kernel) (pa_cons (pv 0) pa_nil)) (nomark _)) (pss_one (ps_ret (pe_ix ix_list (pv 0) (pv 1) (fun _ _ => rfl)))) pss_nil)
      (pss_cons (ps_set (i := 2) sc_law_cell.nd rfl (Or.inl rfl) (pe_op op_add (pe_op op_mul pe_int (pv 1)) pe_int))
      (pss_cons (ps_for PassesOwn.never rfl (pi_list (pv 0)) (pg_name (i := 3) sc_law_cell.nd rfl (Or.inl rfl))
      (pss_one (ps_set (i := 2) sc_law_cell.nd rfl (Or.inl rfl) (pe_op op_mod (pe_callTy cr_intI rfl T.z_int (by decide +kernel) (pa_cons (pe_op op_add (pe_op op_mul (pv 2) pe_int) (pv 3)) pa_nil)) pe_int))))
      (pss_one (ps_ret (pv 2))))))
theorem ok_Floor_d_init {P : Program} {w : World} {K : PySem.W.Frag} {mg : Str → Option Value} {base : Heap} (T : Txt w K mg)  : O_Floor_d_init P w K mg base := by
  obtain ⟨fd, X⟩ := T.d_Floor_d_init
  refine ⟨fd, X, X.ok sc_Floor_d_init (fun vs H Q E h => len_Floor_d_init h) (fun cdv A outer s H vs Q E hr h => ⟨t_Floor_d_init K E, ?_, pure_Floor_d_init T.FFloor vs H Q E h⟩)⟩
  exact (pss_cons (ps_if (PW.pt (pw_or (pt_cmpR op_notTyB (pe_callTy call_type1 rfl T.z_type (by decide +kernel) (pa_cons (pv 1) pa_nil)) (pe_bltn rfl T.z_list (by decide +kernel) rfl) (nomark _)) (pw_or1 (pt_not (pt_chain op_le op_le pe_int (pe_callB cr_lenQ rfl T.z_len (by decide +kernel) (pa_cons (pv 1) pa_nil)) (C8.pe_gc rfl (cst_ok T.c_MOST_CELLS))))))) (pss_one (ps_raise rfl (takes_of rfl rfl rfl rfl) (pmk_own PySem.F.excBase_ValueError T.x_BadValue.1 T.g_BadValue T.x_BadValue.2.1 (raises_own T.x_BadValue.2.2.1 T.x_BadValue.2.2.2) (by exact rfl)))) pss_nil)
      (pss_cons (ps_for (passes_of rfl) rfl (pi_list (pv 1)) (pg_name (i := 2) sc_Floor_d_init.nd rfl (Or.inl rfl))
      (pss_cons (ps_if (PW.pt (pw_or (pt_cmpR op_notTyB (pe_callTy call_type1 rfl T.z_type (by decide +kernel) (pa_cons (pv 2) pa_nil)) (pe_bltn rfl T.z_str (by decide +kernel) rfl) (nomark _)) (pw_or (pt_not (pt_chain op_le op_le pe_int (pe_callB cr_lenS rfl T.z_len (by decide +kernel) (pa_cons (pv 2) pa_nil)) (C8.pe_gc rfl (cst_ok T.c_MOST_CELLS)))) (pw_or1 (pt_cmpR op_ne (pe_callB cr_lenS rfl T.z_len (by decide +kernel) (pa_cons (pv 2) pa_nil)) (pe_callB cr_lenS rfl T.z_len (by decide +kernel) (pa_cons (pe_ix ix_list (pv 1) pe_int (fun _ _ => rfl)) pa_nil)) (nomark _)))))) (pss_one (ps_raise rfl (takes_of rfl rfl rfl rfl) (pmk_own PySem.F.excBase_ValueError T.x_BadValue.1 T.g_BadValue T.x_BadValue.2.1 (raises_own T.x_BadValue.2.2.1 T.x_BadValue.2.2.2) (by exact rfl)))) pss_nil)
      (pss_one (ps_if (pt_not (pt_val (pe_callB (cr_all rfl) rfl T.z_all (by decide +kernel) (pa_cons (pe_lc (own := [("cell", 3)]) (g := (gName 3)) (tt := tYes) rfl sc_Floor_d_init.nd (pi_str (pv 2)) (blkOk_by (N := R_Floor_d_init) (sc := defScope s_Floor_d_init) (by decide +kernel)) (fun _ _ _ _ _ => (pg_name (i := 3) sc_Floor_d_init.nd rfl (Or.inl rfl))) (fun _ _ _ _ _ => pts_nil) (fun _ _ _ _ _ => (pe_cmpR op_in_seq (pv 3) (pe_tup (pa_cons (C8.pe_gc rfl (cst_okS T.c_FREE)) (pa_cons (C8.pe_gc rfl (cst_okS T.c_COVERED)) pa_nil))) (by rfl)))) pa_nil)))) (pss_one (ps_raise rfl (takes_of rfl rfl rfl rfl) (pmk_own PySem.F.excBase_ValueError T.x_BadValue.1 T.g_BadValue T.x_BadValue.2.1 (raises_own T.x_BadValue.2.2.1 T.x_BadValue.2.2.2) (by exact rfl)))) pss_nil))))
      (pss_one (ps_fld (pv 0) (pe_callTy cr_tupL rfl T.z_tuple (by decide +kernel) (pa_cons (pv 1) pa_nil)) rfl))))
theorem ok_law_clipped {P : Program} {w : World} {K : PySem.W.Frag} {mg : Str → Option Value} {base : Heap} (T : Txt w K mg)  : O_law_clipped P w K mg base := by
  obtain ⟨fd, X⟩ := T.d_law_clipped
  refine ⟨fd, X, X.ok sc_law_clipped (fun vs H Q E h => len_law_clipped h) (fun cdv A outer s H vs Q E hr h => ⟨t_law_clipped K E, PSs.nox ?_, pure_law_clipped vs H Q E h⟩)⟩
  exact (pss_cons (ps_setLc (i := 1) (own := [("cell", 2)]) (g := (gName 2)) (tt := tYes) rfl sc_law_clipped.nd rfl rfl (sw_true rfl rfl rfl (by decide +kernel)) (pi_list (pv 0)) (blkOk_by (N := R_law_clipped) (sc := defScope s_law_clipped) (by decide +kernel)) (fun _ _ _ _ _ => (pg_name (i := 2) sc_law_clipped.nd rfl (Or.inl rfl))) (fun _ _ _ _ _ => pts_nil) (fun _ _ _ _ _ => (pe_ix ix_tup (pv 2) pe_int (fun _ _ => rfl))))
      (pss_cons (ps_setLc (i := 3) (own := [("cell", 2)]) (g := (gName 2)) (tt := tYes) rfl sc_law_clipped.nd rfl rfl (sw_true rfl rfl rfl (by decide +kernel)) (pi_list (pv 0)) (blkOk_by (N := R_law_clipped) (sc := defScope s_law_clipped) (by decide +kernel)) (fun _ _ _ _ _ => (pg_name (i := 2) sc_law_clipped.nd rfl (Or.inl rfl))) (fun _ _ _ _ _ => pts_nil) (fun _ _ _ _ _ => (pe_ix ix_tup (pv 2) pe_int (fun _ _ => rfl))))
      (pss_cons (ps_set (i := 4) sc_law_clipped.nd rfl (Or.inl rfl) (pe_lst pa_nil))
      (pss_cons (ps_for PassesOwn.never rfl (pi_range2 rfl T.z_range (pa_cons (pe_callB (cr_min rfl) rfl T.z_min (by decide +kernel) (pa_cons (pv 1) pa_nil)) (pa_cons (pe_op op_add (pe_callB (cr_max rfl) rfl T.z_max (by decide +kernel) (pa_cons (pv 1) pa_nil)) pe_int) pa_nil))) (pg_name (i := 5) sc_law_clipped.nd rfl (Or.inl rfl))
      (pss_cons (ps_set (i := 6) sc_law_clipped.nd rfl (Or.inl rfl) pe_str)
      (pss_cons (ps_for PassesOwn.never rfl (pi_range2 rfl T.z_range (pa_cons (pe_callB (cr_min rfl) rfl T.z_min (by decide +kernel) (pa_cons (pv 3) pa_nil)) (pa_cons (pe_op op_add (pe_callB (cr_max rfl) rfl T.z_max (by decide +kernel) (pa_cons (pv 3) pa_nil)) pe_int) pa_nil))) (pg_name (i := 7) sc_law_clipped.nd rfl (Or.inl rfl))
      (pss_one (ps_set (i := 6) sc_law_clipped.nd rfl (Or.inl rfl) (pe_op op_add_str (pv 6) (pe_ifExp (pt_cmpR (op_inD (hu65R hr)) (pe_tup (pa_cons (pv 5) (pa_cons (pv 7) pa_nil))) (pv 0) (by rfl)) pe_str pe_str)))))
      (pss_one (ps_expr (pe_bm PySem.F.plainAttrs_list PySem.F.slot_list_append PySem.F.type_list_append mt_append (pv 4) (pa_cons (pv 6) pa_nil)))))))
      (pss_one (ps_ret (pe_tup (pa_cons pe_str (pa_cons (pe_callTy cr_tupL rfl T.z_tuple (by decide +kernel) (pa_cons (pv 4) pa_nil)) pa_nil)))))))))
theorem ok_law_floor_parts {P : Program} {w : World} {K : PySem.W.Frag} {mg : Str → Option Value} {base : Heap} (T : Txt w K mg) (D_law_clipped : O_law_clipped P w K mg base) : O_law_floor_parts P w K mg base := by
  obtain ⟨fd_law_clipped, X_law_clipped, G_law_clipped⟩ := D_law_clipped.ex
  have K_law_clipped := X_law_clipped.kp
  have B_law_clipped := X_law_clipped.bindsN (ps := ["cells"]) fun _ _ _ _ _ _ us hl => match us, hl with | [_], _ => rfl
  have V_law_clipped : Vals [] [] := .nil
  obtain ⟨fd, X⟩ := T.d_law_floor_parts
  refine ⟨fd, X, X.ok sc_law_floor_parts (fun vs H Q E h => len_law_floor_parts h) (fun cdv A outer s H vs Q E hr h => ⟨t_law_floor_parts K E, PSs.nox ?_, pure_law_floor_parts vs H Q E h⟩)⟩
  exact (pss_cons (ps_setLc (i := 1) (own := [("k", 2)]) (g := (gName 2)) (tt := tYes) rfl sc_law_floor_parts.nd rfl rfl (sw_true rfl rfl rfl (by decide +kernel)) (pi_range1 rfl T.z_range (pa_cons pe_int pa_nil)) (blkOk_by (N := R_law_floor_parts) (sc := defScope s_law_floor_parts) (by decide +kernel)) (fun _ _ _ _ _ => (pg_name (i := 2) sc_law_floor_parts.nd rfl (Or.inl rfl))) (fun _ _ _ _ _ => pts_nil) (fun _ _ _ _ _ => (pe_tup (pa_cons (pe_op op_fdiv (pv 2) pe_int) (pa_cons (pe_op op_mod (pe_callTy cr_intI rfl T.z_int (by decide +kernel) (pa_cons (pv 2) pa_nil)) pe_int) pa_nil)))))
      (pss_cons (ps_setLc (i := 1) (own := [("cell", 3)]) (g := (gName 3)) (tt := (tAnd (tTest (tOp rLtI (tOp (rIxT K) (tVar 3) (tC (.int 0))) (tCB (rLenQ K) (tCons (tVar 0) tNil)))) (tTest (tOp rEq (tSl rSlS (tOp (rIxT K) (tVar 0) (tCB rMin2 (tCons (tOp (rIxT K) (tVar 3) (tC (.int 0))) (tCons (tOp rSubI (tCB (rLenQ K) (tCons (tVar 0) tNil)) (tC (.int 1))) tNil)))) (tPart (tOp (rIxT K) (tVar 3) (tC (.int 1)))) (tPart (tOp rAddI (tOp (rIxT K) (tVar 3) (tC (.int 1))) (tC (.int 1))))) (tC (.str ".")))))) rfl sc_law_floor_parts.nd rfl rfl (sw_true rfl rfl rfl (by decide +kernel)) (pi_list (pv 1)) (blkOk_by (N := R_law_floor_parts) (sc := defScope s_law_floor_parts) (by decide +kernel)) (fun _ _ _ _ _ => (pg_name (i := 3) sc_law_floor_parts.nd rfl (Or.inl rfl))) (fun _ _ _ _ _ => (pts_one (PW.pt (pw_and (pt_cmpR op_lt (pe_ix ix_tup (pv 3) pe_int (fun _ _ => rfl)) (pe_callB cr_lenQ rfl T.z_len (by decide +kernel) (pa_cons (pv 0) pa_nil)) (nomark _)) (pw_and1 (pt_cmpR op_eq (pe_slice sl_str (pe_ix ix_tup (pv 0) (pe_callB (cr_min2 rfl) rfl T.z_min (by decide +kernel) (pa_cons (pe_ix ix_tup (pv 3) pe_int (fun _ _ => rfl)) (pa_cons (pe_op op_sub (pe_callB cr_lenQ rfl T.z_len (by decide +kernel) (pa_cons (pv 0) pa_nil)) pe_int) pa_nil))) (fun _ _ => rfl)) (po_some (pe_ix ix_tup (pv 3) pe_int (fun _ _ => rfl))) (po_some (pe_op op_add (pe_ix ix_tup (pv 3) pe_int (fun _ _ => rfl)) pe_int))) pe_str (nomark _))))))) (fun _ _ _ _ _ => (pv 3)))
      (pss_cons (ps_set (i := 4) sc_law_floor_parts.nd rfl (Or.inl rfl) (pe_lst pa_nil))
      (pss_cons (ps_set (i := 5) sc_law_floor_parts.nd rfl (Or.inl rfl) (pe_lst pa_nil))
      (pss_cons (ps_for PassesOwn.never rfl (pi_list (pv 1)) (pg_name (i := 6) sc_law_floor_parts.nd rfl (Or.inl rfl))
      (pss_one (ps_if (pt_cmpR (op_notInD (hu65R hr)) (pv 6) (pv 5) (by rfl)) (pss_cons (ps_set (i := 7) sc_law_floor_parts.nd rfl (Or.inl rfl) (pe_lst (pa_cons (pv 6) pa_nil)))
      (pss_cons (ps_for PassesOwn.never rfl (pi_range1 rfl T.z_range (pa_cons pe_int pa_nil)) (pg_name (i := 8) sc_law_floor_parts.nd rfl (Or.inl rfl))
      (pss_cons (ps_set (i := 9) sc_law_floor_parts.nd rfl (Or.inl rfl) (pe_callB cr_lenQ rfl T.z_len (by decide +kernel) (pa_cons (pv 7) pa_nil)))
      (pss_cons (ps_for PassesOwn.never rfl (pi_list (pv 1)) (pg_name (i := 3) sc_law_floor_parts.nd rfl (Or.inr rfl))
      (pss_cons (ps_setLc (i := 10) (own := [("other", 11)]) (g := (gName 11)) (tt := (tTest (tOp rEq (tOp rAddI (tCB rAbsI (tCons (tOp rSubI (tOp (rIxT K) (tVar 11) (tC (.int 0))) (tOp (rIxT K) (tVar 3) (tC (.int 0)))) tNil)) (tCB rAbsI (tCons (tOp rSubI (tOp (rIxT K) (tVar 11) (tC (.int 1))) (tOp (rIxT K) (tVar 3) (tC (.int 1)))) tNil))) (tC (.int 1))))) rfl sc_law_floor_parts.nd rfl rfl (sw_true rfl rfl rfl (by decide +kernel)) (pi_list (pv 7)) (blkOk_by (N := R_law_floor_parts) (sc := defScope s_law_floor_parts) (by decide +kernel)) (fun _ _ _ _ _ => (pg_name (i := 11) sc_law_floor_parts.nd rfl (Or.inl rfl))) (fun _ _ _ _ _ => (pts_one (pt_cmpR op_eq (pe_op op_add (pe_callB cr_absI rfl T.z_abs (by decide +kernel) (pa_cons (pe_op op_sub (pe_ix ix_tup (pv 11) pe_int (fun _ _ => rfl)) (pe_ix ix_tup (pv 3) pe_int (fun _ _ => rfl))) pa_nil)) (pe_callB cr_absI rfl T.z_abs (by decide +kernel) (pa_cons (pe_op op_sub (pe_ix ix_tup (pv 11) pe_int (fun _ _ => rfl)) (pe_ix ix_tup (pv 3) pe_int (fun _ _ => rfl))) pa_nil))) pe_int (nomark _)))) (fun _ _ _ _ _ => (pv 11)))
      (pss_one (ps_if (PW.pt (pw_and (pt_cmpR (op_notInD (hu65R hr)) (pv 3) (pv 7) (by rfl)) (pw_and1 (pt_cmpR op_gt (pe_callB cr_lenQ rfl T.z_len (by decide +kernel) (pa_cons (pv 10) pa_nil)) pe_int (nomark _))))) (pss_one (ps_expr (pe_bm PySem.F.plainAttrs_list PySem.F.slot_list_append PySem.F.type_list_append mt_append (pv 7) (pa_cons (pv 3) pa_nil)))) pss_nil))))
      (pss_one (ps_if (pt_cmpR op_eq (pe_callB cr_lenQ rfl T.z_len (by decide +kernel) (pa_cons (pv 7) pa_nil)) (pv 9) (nomark _)) (pss_one ps_break) pss_nil)))))
      (pss_cons (ps_set (i := 5) sc_law_floor_parts.nd rfl (Or.inl rfl) (pe_op op_cat (pv 5) (pv 7)))
      (pss_one (ps_if (pt_cmpR op_gt (pe_callB cr_lenQ rfl T.z_len (by decide +kernel) (pa_cons (pv 7) pa_nil)) pe_int (nomark _)) (pss_one (ps_expr (pe_bm PySem.F.plainAttrs_list PySem.F.slot_list_append PySem.F.type_list_append mt_append (pv 4) (pa_cons (pe_call G_law_clipped (hr.mono (by decide)) rfl T.g__law_clipped K_law_clipped B_law_clipped V_law_clipped pass0 (pa_cons (pv 7) pa_nil)) pa_nil)))) pss_nil))))) pss_nil)))
      (pss_one (ps_ret (pv 4))))))))
theorem ok_law_same {P : Program} {w : World} {K : PySem.W.Frag} {mg : Str → Option Value} {base : Heap} (T : Txt w K mg)  : O_law_same P w K mg base := by
  obtain ⟨fd, X⟩ := T.d_law_same
  have all : ∀ n : Nat, FnOk P w K mg base CX0 (n + 1) (ad_law_same K) fd ["told", "due"] (sp_law_same K n) := by
    intro n
    induction n with
    | zero => exact X.ok sc_law_same (fun vs H Q E h => len_law_same h) (fun cdv A outer s H vs Q E hr h => absurd h no_law_same)
    | succ n G_law_same =>
      have K_law_same := X.kp
      have V_law_same : Vals [] [] := .nil
      have B_law_same := X.bindsN (ps := ["told", "due"]) fun _ _ _ _ _ _ us hl => match us, hl with | [_, _], _ => rfl
      refine X.ok (k := (n + 1) + 0) sc_law_same (fun vs H Q E h => len_law_same h) (fun cdv A outer s H vs Q E hr h => ⟨t_law_same K n E, PSs.nox ?_, pure_law_same n vs H Q E h⟩)
      exact (pss_cons (ps_if (pt_val (pe_callB call_isi rfl T.z_isinstance (by decide +kernel) (pa_cons (pv 1) (pa_cons (pe_bltn rfl T.z_tuple (by decide +kernel) rfl) pa_nil)))) (pss_cons (ps_if (PW.pt (pw_or (pt_not (pt_val (pe_callB call_isi rfl T.z_isinstance (by decide +kernel) (pa_cons (pv 0) (pa_cons (pe_bltn rfl T.z_tuple (by decide +kernel) rfl) pa_nil))))) (pw_or1 (pt_cmpR op_ne (pe_callB cr_lenQ rfl T.z_len (by decide +kernel) (pa_cons (pv 0) pa_nil)) (pe_callB cr_lenQ rfl T.z_len (by decide +kernel) (pa_cons (pv 1) pa_nil)) (nomark _))))) (pss_one (ps_ret pe_bl)) pss_nil)
      (pss_cons (ps_for PassesOwn.never rfl (pi_range1 rfl T.z_range (pa_cons (pe_callB cr_lenQ rfl T.z_len (by decide +kernel) (pa_cons (pv 1) pa_nil)) pa_nil)) (pg_name (i := 2) sc_law_same.nd rfl (Or.inl rfl))
      (pss_one (ps_if (pt_not (pt_val (pe_call G_law_same (hr.mono (by omega)) rfl T.g__law_same K_law_same B_law_same V_law_same pass0 (pa_cons (pe_ix ix_tup (pv 0) (pv 2) (fun _ _ => rfl)) (pa_cons (pe_ix ix_tup (pv 1) (pv 2) (fun _ _ => rfl)) pa_nil))))) (pss_one (ps_ret pe_bl)) pss_nil)))
      (pss_one (ps_ret pe_bl)))) pss_nil)
      (pss_cons (ps_if (pt_val (pe_callB call_isi rfl T.z_isinstance (by decide +kernel) (pa_cons (pv 1) (pa_cons (pe_bltn rfl T.z_str (by decide +kernel) rfl) pa_nil)))) (pss_one (ps_ret (pe_and (pe_callB call_isi rfl T.z_isinstance (by decide +kernel) (pa_cons (pv 0) (pa_cons (pe_bltn rfl T.z_str (by decide +kernel) rfl) pa_nil))) (pe_one (pe_cmpR (op_eqD hr.units) (pv 0) (pv 1) (nomark _)))))) pss_nil)
      (pss_one (ps_ret (pe_and (pe_callB call_isi rfl T.z_isinstance (by decide +kernel) (pa_cons (pv 0) (pa_cons (pe_bltn rfl T.z_int (by decide +kernel) rfl) pa_nil))) (pe_and (pe_not (pe_callB call_isi rfl T.z_isinstance (by decide +kernel) (pa_cons (pv 0) (pa_cons (pe_bltn rfl T.z_bool (by decide +kernel) rfl) pa_nil)))) (pe_one (pe_cmpR (op_eqD hr.units) (pv 0) (pv 1) (nomark _)))))))))
  exact ⟨fd, X, all 4⟩
theorem ok_Floor_m_value {P : Program} {w : World} {K : PySem.W.Frag} {mg : Str → Option Value} {base : Heap} (T : Txt w K mg)  : O_Floor_m_value P w K mg base := by
  obtain ⟨fd, X⟩ := T.d_Floor_m_value
  refine ⟨fd, X, X.ok sc_Floor_m_value (fun vs H Q E h => len_Floor_m_value h) (fun cdv A outer s H vs Q E hr h => ⟨t_Floor_m_value K E, PSs.nox ?_, pure_Floor_m_value T.FFloor vs H Q E h⟩)⟩
  exact (pss_one (ps_ret (pe_tup (pa_cons pe_str (pa_cons (pe_fld (pv 0) rfl) pa_nil)))))
theorem ok_law_told {P : Program} {w : World} {K : PySem.W.Frag} {mg : Str → Option Value} {base : Heap} (T : Txt w K mg) (D_law_same : O_law_same P w K mg base) (D_Floor_m_value : O_Floor_m_value P w K mg base) : O_law_told P w K mg base := by
  obtain ⟨fd_law_same, X_law_same, G_law_same⟩ := D_law_same.ex
  have K_law_same := X_law_same.kp
  have B_law_same := X_law_same.bindsN (ps := ["told", "due"]) fun _ _ _ _ _ _ us hl => match us, hl with | [_, _], _ => rfl
  have V_law_same : Vals [] [] := .nil
  obtain ⟨fd_Floor_m_value, X_Floor_m_value, G_Floor_m_value⟩ := D_Floor_m_value.ex
  have K_Floor_m_value := X_Floor_m_value.kp
  have B_Floor_m_value := X_Floor_m_value.bindsN (ps := ["self"]) fun _ _ _ _ _ _ us hl => match us, hl with | [_], _ => rfl
  have V_Floor_m_value : Vals [] [] := .nil
  obtain ⟨fd, X⟩ := T.d_law_told
  refine ⟨fd, X, X.ok sc_law_told (fun vs H Q E h => len_law_told h) (fun cdv A outer s H vs Q E hr h => ⟨t_law_told K E, PSs.nox ?_, pure_law_told vs H Q E h⟩)⟩
  exact (pss_cons (ps_if (PW.pt (pw_or (pt_not (pt_val (pe_callB call_isi rfl T.z_isinstance (by decide +kernel) (pa_cons (pv 0) (pa_cons (pe_bltn rfl T.z_list (by decide +kernel) rfl) pa_nil))))) (pw_or1 (pt_cmpR op_ne (pe_callB cr_lenQ rfl T.z_len (by decide +kernel) (pa_cons (pv 0) pa_nil)) (pe_callB cr_lenQ rfl T.z_len (by decide +kernel) (pa_cons (pv 1) pa_nil)) (nomark _))))) (pss_one (ps_ret pe_bl)) pss_nil)
      (pss_cons (ps_for PassesOwn.never rfl (pi_range1 rfl T.z_range (pa_cons (pe_callB cr_lenQ rfl T.z_len (by decide +kernel) (pa_cons (pv 1) pa_nil)) pa_nil)) (pg_name (i := 2) sc_law_told.nd rfl (Or.inl rfl))
      (pss_one (ps_if (PW.pt (pw_or (pt_not (pt_val (pe_callB (cr_isC T.ic_Floor) rfl T.z_isinstance (by decide +kernel) (pa_cons (pe_ix ix_list (pv 0) (pv 2) (fun _ _ => rfl)) (pa_cons (C8.pe_gc rfl ⟨_, T.g_Floor, rfl⟩) pa_nil))))) (pw_or1 (pt_not (pt_val (pe_call G_law_same (hr.mono (by decide)) rfl T.g__law_same K_law_same B_law_same V_law_same pass0 (pa_cons (pe_meth0 (pe_ix ix_list (pv 0) (pv 2) (fun _ _ => rfl)) T.cl_Floor T.mt_Floor_value G_Floor_m_value (hr.mono (by decide)) B_Floor_m_value .nil pass0) (pa_cons (pe_ix ix_list (pv 1) (pv 2) (fun _ _ => rfl)) pa_nil)))))))) (pss_one (ps_ret pe_bl)) pss_nil)))
      (pss_cons (ps_expr (pe_bm0 PySem.F.plainAttrs_list PySem.F.slot_list_reverse PySem.F.type_list_reverse mt_reverse (pv 0)))
      (pss_cons (ps_expr (pe_bm PySem.F.plainAttrs_list PySem.F.slot_list_append PySem.F.type_list_append mt_append (pv 0) (pa_cons pe_non pa_nil)))
      (pss_one (ps_ret pe_bl))))))
theorem ok_Floor_p_cells {P : Program} {w : World} {K : PySem.W.Frag} {mg : Str → Option Value} {base : Heap} (T : Txt w K mg)  : O_Floor_p_cells P w K mg base := by
  obtain ⟨fd, X⟩ := T.d_Floor_p_cells
  refine ⟨fd, X, X.ok sc_Floor_p_cells (fun vs H Q E h => len_Floor_p_cells h) (fun cdv A outer s H vs Q E hr h => ⟨t_Floor_p_cells K E, PSs.nox ?_, pure_Floor_p_cells T.FFloor vs H Q E h⟩)⟩
  exact (pss_one (ps_ret (pe_lc2 (own := [("row", 1), ("column", 2)]) (vs1 := [2]) (g := (gName 1)) (g1 := (gName 2)) (tt := tYes) (tt1 := tYes) rfl sc_Floor_p_cells.nd (pi_range1 rfl T.z_range (pa_cons (pe_callB cr_lenQ rfl T.z_len (by decide +kernel) (pa_cons (pe_fld (pv 0) rfl) pa_nil)) pa_nil)) (blkOk_by (N := R_Floor_p_cells) (sc := defScope s_Floor_p_cells) (by decide +kernel)) (by decide) (fun _ _ _ _ _ => (pg_name (i := 1) sc_Floor_p_cells.nd rfl (Or.inl rfl))) (fun _ _ _ _ _ => pts_nil) (fun _ _ _ _ _ => (pi_range1 rfl T.z_range (pa_cons (pe_callB cr_lenS rfl T.z_len (by decide +kernel) (pa_cons (pe_ix ix_tup (pe_fld (pv 0) rfl) pe_int (fun _ _ => rfl)) pa_nil)) pa_nil))) (fun _ _ _ _ _ => (pg_name (i := 2) sc_Floor_p_cells.nd rfl (Or.inl rfl))) (fun _ _ _ _ _ => pts_nil) (fun _ _ _ _ _ => (pe_tup (pa_cons (pv 1) (pa_cons (pv 2) pa_nil)))))))
theorem ok_Floor_p_is_free {P : Program} {w : World} {K : PySem.W.Frag} {mg : Str → Option Value} {base : Heap} (T : Txt w K mg)  : O_Floor_p_is_free P w K mg base := by
  obtain ⟨fd, X⟩ := T.d_Floor_p_is_free
  refine ⟨fd, X, X.ok sc_Floor_p_is_free (fun vs H Q E h => len_Floor_p_is_free h) (fun cdv A outer s H vs Q E hr h => ⟨t_Floor_p_is_free K E, PSs.nox ?_, pure_Floor_p_is_free T.FFloor vs H Q E h⟩)⟩
  exact (pss_cons (ps_if (PW.pt (pw_and (pt_chain op_le op_lt pe_int (pv 1) (pe_callB cr_lenQ rfl T.z_len (by decide +kernel) (pa_cons (pe_fld (pv 0) rfl) pa_nil))) (pw_and1 (pt_chain op_le op_lt pe_int (pv 2) (pe_callB cr_lenS rfl T.z_len (by decide +kernel) (pa_cons (pe_ix ix_tup (pe_fld (pv 0) rfl) pe_int (fun _ _ => rfl)) pa_nil)))))) (pss_one (ps_ret (pe_cmpR op_eq (pe_ix ix_str (pe_ix ix_tup (pe_fld (pv 0) rfl) (pv 1) (fun _ _ => rfl)) (pv 2) (fun _ _ => rfl)) (C8.pe_gc rfl (cst_okS T.c_FREE)) (nomark _)))) pss_nil)
      (pss_one (ps_ret pe_bl)))
theorem ok_Floor_p_together {P : Program} {w : World} {K : PySem.W.Frag} {mg : Str → Option Value} {base : Heap} (T : Txt w K mg) (D_Floor_p_is_free : O_Floor_p_is_free P w K mg base) : O_Floor_p_together P w K mg base := by
  obtain ⟨fd_Floor_p_is_free, X_Floor_p_is_free, G_Floor_p_is_free⟩ := D_Floor_p_is_free.ex
  have K_Floor_p_is_free := X_Floor_p_is_free.kp
  have B_Floor_p_is_free := X_Floor_p_is_free.bindsN (ps := ["self", "row", "column"]) fun _ _ _ _ _ _ us hl => match us, hl with | [_, _, _], _ => rfl
  have V_Floor_p_is_free : Vals [] [] := .nil
  obtain ⟨fd, X⟩ := T.d_Floor_p_together
  refine ⟨fd, X, X.ok sc_Floor_p_together (fun vs H Q E h => len_Floor_p_together h) (fun cdv A outer s H vs Q E hr h => ⟨t_Floor_p_together K E, PSs.nox ?_, pure_Floor_p_together T.FFloor T.FNEXT vs H Q E h⟩)⟩
  exact (pss_cons (ps_set (i := 2) sc_Floor_p_together.nd rfl (Or.inl rfl) (pe_dispT (hu9 hr) (pv 1) pe_bl))
      (pss_cons (ps_set (i := 3) sc_Floor_p_together.nd rfl (Or.inl rfl) (pe_lst (pa_cons (pv 1) pa_nil)))
      (pss_cons (ps_while PassesOwn.never (pt_truth (pv 3) (by intro _; rfl)) (pss_cons (ps_asg (pe_bm0 PySem.F.plainAttrs_list PySem.F.slot_list_pop PySem.F.type_list_pop mt_pop (pv 3)) (pg_tup rfl (pgs_cons (pg_name (i := 4) sc_Floor_p_together.nd rfl (Or.inl rfl)) (pgs_cons (pg_name (i := 5) sc_Floor_p_together.nd rfl (Or.inl rfl)) pgs_nil))))
      (pss_one (ps_for PassesOwn.never rfl (pi_tup (C8.pe_gc rfl ⟨_, T.g_NEXT_CELLS, rfl⟩)) (pg_tup rfl (pgs_cons (pg_name (i := 6) sc_Floor_p_together.nd rfl (Or.inl rfl)) (pgs_cons (pg_name (i := 7) sc_Floor_p_together.nd rfl (Or.inl rfl)) pgs_nil)))
      (pss_cons (ps_set (i := 8) sc_Floor_p_together.nd rfl (Or.inl rfl) (pe_tup (pa_cons (pe_op op_add (pv 4) (pv 6)) (pa_cons (pe_op op_add (pv 5) (pv 7)) pa_nil))))
      (pss_one (ps_if (PW.pt (pw_and (pt_val (pe_meth (pv 0) T.cl_Floor T.mt_Floor__is_free G_Floor_p_is_free (hr.mono (by decide)) B_Floor_p_is_free .nil pass0 (pa_cons (pe_ix ix_tup (pv 8) pe_int (fun _ _ => rfl)) (pa_cons (pe_ix ix_tup (pv 8) pe_int (fun _ _ => rfl)) pa_nil)))) (pw_and1 (pt_cmp (pc_dnotin (hu_of hr) (pv 8) (pv 2)))))) (pss_cons (ps_dput (hu_of hr) (pv 2) (pv 8) pe_bl rfl)
      (pss_one (ps_expr (pe_bm PySem.F.plainAttrs_list PySem.F.slot_list_append PySem.F.type_list_append mt_append (pv 3) (pa_cons (pv 8) pa_nil))))) pss_nil)))))))
      (pss_one (ps_ret (pv 2))))))
theorem ok_rectangle {P : Program} {w : World} {K : PySem.W.Frag} {mg : Str → Option Value} {base : Heap} (T : Txt w K mg) (D_Floor_d_init : O_Floor_d_init P w K mg base) : O_rectangle P w K mg base := by
  obtain ⟨fd_Floor_d_init, X_Floor_d_init, G_Floor_d_init⟩ := D_Floor_d_init.ex
  have K_Floor_d_init := X_Floor_d_init.kp
  have B_Floor_d_init := X_Floor_d_init.bindsN (ps := ["self", "rows"]) fun _ _ _ _ _ _ us hl => match us, hl with | [_, _], _ => rfl
  have V_Floor_d_init : Vals [] [] := .nil
  obtain ⟨fd, X⟩ := T.d_rectangle
  refine ⟨fd, X, X.ok sc_rectangle (fun vs H Q E h => len_rectangle h) (fun cdv A outer s H vs Q E hr h => ⟨t_rectangle K E, PSs.nox ?_, pure_rectangle vs H Q E h⟩)⟩
  exact (pss_cons (ps_lock (ps_setLc (i := 1) (own := [("row", 2), ("_", 3)]) (g := (gTup K 2 (gCons (gName 2) (gCons (gName 3) gNil)))) (tt := tYes) rfl sc_rectangle.nd rfl rfl (sw_true rfl rfl rfl (by decide +kernel)) (pi_keys (pv 0)) (blkOk_by (N := R_rectangle) (sc := defScope s_rectangle) (by decide +kernel)) (fun _ _ _ _ _ => (pg_tup rfl (pgs_cons (pg_name (i := 2) sc_rectangle.nd rfl (Or.inl rfl)) (pgs_cons (pg_name (i := 3) sc_rectangle.nd rfl (Or.inl rfl)) pgs_nil)))) (fun _ _ _ _ _ => pts_nil) (fun _ _ _ _ _ => (pv 2))))
      (pss_cons (ps_lock (ps_setLc (i := 4) (own := [("_", 3), ("column", 5)]) (g := (gTup K 2 (gCons (gName 3) (gCons (gName 5) gNil)))) (tt := tYes) rfl sc_rectangle.nd rfl rfl (sw_true rfl rfl rfl (by decide +kernel)) (pi_keys (pv 0)) (blkOk_by (N := R_rectangle) (sc := defScope s_rectangle) (by decide +kernel)) (fun _ _ _ _ _ => (pg_tup rfl (pgs_cons (pg_name (i := 3) sc_rectangle.nd rfl (Or.inl rfl)) (pgs_cons (pg_name (i := 5) sc_rectangle.nd rfl (Or.inl rfl)) pgs_nil)))) (fun _ _ _ _ _ => pts_nil) (fun _ _ _ _ _ => (pv 5))))
      (pss_cons (ps_set (i := 6) sc_rectangle.nd rfl (Or.inl rfl) (pe_lst pa_nil))
      (pss_cons (ps_for PassesOwn.never rfl (pi_range2 rfl T.z_range (pa_cons (pe_callB (cr_min rfl) rfl T.z_min (by decide +kernel) (pa_cons (pv 1) pa_nil)) (pa_cons (pe_op op_add (pe_callB (cr_max rfl) rfl T.z_max (by decide +kernel) (pa_cons (pv 1) pa_nil)) pe_int) pa_nil))) (pg_name (i := 2) sc_rectangle.nd rfl (Or.inr rfl))
      (pss_cons (ps_setLc (i := 7) (own := [("column", 5)]) (g := (gName 5)) (tt := tYes) rfl sc_rectangle.nd rfl rfl (sw_true rfl rfl rfl (by decide +kernel)) (pi_range2 rfl T.z_range (pa_cons (pe_callB (cr_min rfl) rfl T.z_min (by decide +kernel) (pa_cons (pv 4) pa_nil)) (pa_cons (pe_op op_add (pe_callB (cr_max rfl) rfl T.z_max (by decide +kernel) (pa_cons (pv 4) pa_nil)) pe_int) pa_nil))) (blkOk_by (N := R_rectangle) (sc := defScope s_rectangle) (by decide +kernel)) (fun _ _ _ _ _ => (pg_name (i := 5) sc_rectangle.nd rfl (Or.inl rfl))) (fun _ _ _ _ _ => pts_nil) (fun _ _ _ _ _ => (pe_ifExp (pt_cmp (pc_din (hu_of hr) (pe_tup (pa_cons (pv 2) (pa_cons (pv 5) pa_nil))) (pv 0))) (C8.pe_gc rfl (cst_okS T.c_FREE)) (C8.pe_gc rfl (cst_okS T.c_COVERED)))))
      (pss_one (ps_expr (pe_bm PySem.F.plainAttrs_list PySem.F.slot_list_append PySem.F.type_list_append mt_append (pv 6) (pa_cons (pe_bm PySem.F.plainAttrs_str PySem.F.slot_str_join PySem.F.type_str_join mt_joinS pe_str (pa_cons (pv 7) pa_nil)) pa_nil))))))
      (pss_one (ps_ret (pe_make T.mk_Floor G_Floor_d_init (hr.mono (by decide)) rfl T.g_Floor B_Floor_d_init V_Floor_d_init passL (pa_cons (pv 6) pa_nil))))))))
theorem ok_Floor_m_parts {P : Program} {w : World} {K : PySem.W.Frag} {mg : Str → Option Value} {base : Heap} (T : Txt w K mg) (D_Floor_p_cells : O_Floor_p_cells P w K mg base) (D_Floor_p_is_free : O_Floor_p_is_free P w K mg base) (D_Floor_p_together : O_Floor_p_together P w K mg base) (D_rectangle : O_rectangle P w K mg base) : O_Floor_m_parts P w K mg base := by
  obtain ⟨fd_Floor_p_cells, X_Floor_p_cells, G_Floor_p_cells⟩ := D_Floor_p_cells.ex
  have K_Floor_p_cells := X_Floor_p_cells.kp
  have B_Floor_p_cells := X_Floor_p_cells.bindsN (ps := ["self"]) fun _ _ _ _ _ _ us hl => match us, hl with | [_], _ => rfl
  have V_Floor_p_cells : Vals [] [] := .nil
  obtain ⟨fd_Floor_p_is_free, X_Floor_p_is_free, G_Floor_p_is_free⟩ := D_Floor_p_is_free.ex
  have K_Floor_p_is_free := X_Floor_p_is_free.kp
  have B_Floor_p_is_free := X_Floor_p_is_free.bindsN (ps := ["self", "row", "column"]) fun _ _ _ _ _ _ us hl => match us, hl with | [_, _, _], _ => rfl
  have V_Floor_p_is_free : Vals [] [] := .nil
  obtain ⟨fd_Floor_p_together, X_Floor_p_together, G_Floor_p_together⟩ := D_Floor_p_together.ex
  have K_Floor_p_together := X_Floor_p_together.kp
  have B_Floor_p_together := X_Floor_p_together.bindsN (ps := ["self", "cell"]) fun _ _ _ _ _ _ us hl => match us, hl with | [_, _], _ => rfl
  have V_Floor_p_together : Vals [] [] := .nil
  obtain ⟨fd_rectangle, X_rectangle, G_rectangle⟩ := D_rectangle.ex
  have K_rectangle := X_rectangle.kp
  have B_rectangle := X_rectangle.bindsN (ps := ["cells"]) fun _ _ _ _ _ _ us hl => match us, hl with | [_], _ => rfl
  have V_rectangle : Vals [] [] := .nil
  obtain ⟨fd, X⟩ := T.d_Floor_m_parts
  refine ⟨fd, X, X.ok sc_Floor_m_parts (fun vs H Q E h => len_Floor_m_parts h) (fun cdv A outer s H vs Q E hr h => ⟨t_Floor_m_parts K E, PSs.nox ?_, pure_Floor_m_parts T.FFloor vs H Q E h⟩)⟩
  exact (pss_cons (ps_set (i := 1) sc_Floor_m_parts.nd rfl (Or.inl rfl) (pe_lst pa_nil))
      (pss_cons (ps_set (i := 2) sc_Floor_m_parts.nd rfl (Or.inl rfl) pe_dnewT)
      (pss_cons (ps_for PassesOwn.never rfl (pi_list (pe_meth0 (pv 0) T.cl_Floor T.mt_Floor__cells G_Floor_p_cells (hr.mono (by decide)) B_Floor_p_cells .nil pass0)) (pg_tup rfl (pgs_cons (pg_name (i := 3) sc_Floor_m_parts.nd rfl (Or.inl rfl)) (pgs_cons (pg_name (i := 4) sc_Floor_m_parts.nd rfl (Or.inl rfl)) pgs_nil)))
      (pss_one (ps_if (PW.pt (pw_and (pt_val (pe_meth (pv 0) T.cl_Floor T.mt_Floor__is_free G_Floor_p_is_free (hr.mono (by decide)) B_Floor_p_is_free .nil pass0 (pa_cons (pv 3) (pa_cons (pv 4) pa_nil)))) (pw_and1 (pt_cmp (pc_dnotin (hu_of hr) (pe_tup (pa_cons (pv 3) (pa_cons (pv 4) pa_nil))) (pv 2)))))) (pss_cons (ps_set (i := 5) sc_Floor_m_parts.nd rfl (Or.inl rfl) (pe_meth (pv 0) T.cl_Floor T.mt_Floor__together G_Floor_p_together (hr.mono (by decide)) B_Floor_p_together .nil pass0 (pa_cons (pe_tup (pa_cons (pv 3) (pa_cons (pv 4) pa_nil))) pa_nil)))
      (pss_cons (ps_lock (ps_for PassesOwn.never rfl (pi_keys (pv 5)) (pg_name (i := 6) sc_Floor_m_parts.nd rfl (Or.inl rfl))
      (pss_one (ps_dput (hu_of hr) (pv 2) (pv 6) pe_bl rfl))))
      (pss_one (ps_if (pt_cmpR op_gt (pe_callB call_len_dT rfl T.z_len (by decide +kernel) (pa_cons (pv 5) pa_nil)) pe_int (nomark _)) (pss_one (ps_expr (pe_bm PySem.F.plainAttrs_list PySem.F.slot_list_append PySem.F.type_list_append mt_append (pv 1) (pa_cons (pe_call G_rectangle (hr.mono (by decide)) rfl T.g__rectangle K_rectangle B_rectangle V_rectangle pass0 (pa_cons (pv 5) pa_nil)) pa_nil)))) pss_nil)))) pss_nil)))
      (pss_one (ps_ret (pv 1))))))
theorem ok_law_covered {P : Program} {w : World} {K : PySem.W.Frag} {mg : Str → Option Value} {base : Heap} (T : Txt w K mg)  : O_law_covered P w K mg base := by
  obtain ⟨fd, X⟩ := T.d_law_covered
  refine ⟨fd, X, X.ok sc_law_covered (fun vs H Q E h => len_law_covered h) (fun cdv A outer s H vs Q E hr h => ⟨t_law_covered K E, PSs.nox ?_, pure_law_covered vs H Q E h⟩)⟩
  exact (pss_cons (ps_set (i := 3) sc_law_covered.nd rfl (Or.inl rfl) (pe_ix ix_tup (pv 0) (pv 1) (fun _ _ => rfl)))
      (pss_one (ps_ret (pe_op op_catA (pe_op op_catA (pe_slice sl_tupA (pv 0) po_none (po_some (pv 1))) (pe_tup (pa_cons (pe_op op_add_str (pe_op op_add_str (pe_slice sl_str (pv 3) po_none (po_some (pv 2))) pe_str) (pe_slice sl_str (pv 3) (po_some (pe_op op_add (pv 2) pe_int)) po_none)) pa_nil))) (pe_slice sl_tupA (pv 0) (po_some (pe_op op_add (pv 1) pe_int)) po_none)))))
theorem ok_law_floor_moves {P : Program} {w : World} {K : PySem.W.Frag} {mg : Str → Option Value} {base : Heap} (T : Txt w K mg) (D_law_covered : O_law_covered P w K mg base) : O_law_floor_moves P w K mg base := by
  obtain ⟨fd_law_covered, X_law_covered, G_law_covered⟩ := D_law_covered.ex
  have K_law_covered := X_law_covered.kp
  have B_law_covered := X_law_covered.bindsN (ps := ["rows", "line", "column"]) fun _ _ _ _ _ _ us hl => match us, hl with | [_, _, _], _ => rfl
  have V_law_covered : Vals [] [] := .nil
  obtain ⟨fd, X⟩ := T.d_law_floor_moves
  refine ⟨fd, X, X.ok sc_law_floor_moves (fun vs H Q E h => len_law_floor_moves h) (fun cdv A outer s H vs Q E hr h => ⟨t_law_floor_moves K E, PSs.nox ?_, pure_law_floor_moves vs H Q E h⟩)⟩
  exact (pss_cons (ps_set (i := 2) sc_law_floor_moves.nd rfl (Or.inl rfl) (pe_ifExp (pt_cmpR op_eq (pv 1) pe_str (nomark _)) pe_int pe_int))
      (pss_cons (ps_set (i := 3) sc_law_floor_moves.nd rfl (Or.inl rfl) (pe_lst pa_nil))
      (pss_cons (ps_for PassesOwn.never rfl (pi_range1 rfl T.z_range (pa_cons (pe_op op_sub (pe_callB cr_lenQ rfl T.z_len (by decide +kernel) (pa_cons (pv 0) pa_nil)) (pv 2)) pa_nil)) (pg_name (i := 4) sc_law_floor_moves.nd rfl (Or.inl rfl))
      (pss_one (ps_for PassesOwn.never rfl (pi_range1 rfl T.z_range (pa_cons (pe_op op_add (pe_op op_sub (pe_callB cr_lenS rfl T.z_len (by decide +kernel) (pa_cons (pe_ix ix_tup (pv 0) pe_int (fun _ _ => rfl)) pa_nil)) pe_int) (pv 2)) pa_nil)) (pg_name (i := 5) sc_law_floor_moves.nd rfl (Or.inl rfl))
      (pss_one (ps_if (PW.pt (pw_and (pt_cmpR op_eq (pe_ix ix_str (pe_ix ix_tup (pv 0) (pv 4) (fun _ _ => rfl)) (pv 5) (fun _ _ => rfl)) pe_str (nomark _)) (pw_and1 (pt_cmpR op_eq (pe_ix ix_str (pe_ix ix_tup (pv 0) (pe_op op_add (pv 4) (pv 2)) (fun _ _ => rfl)) (pe_op op_sub (pe_op op_add (pv 5) pe_int) (pv 2)) (fun _ _ => rfl)) pe_str (nomark _))))) (pss_cons (ps_set (i := 6) sc_law_floor_moves.nd rfl (Or.inl rfl) (pe_call G_law_covered (hr.mono (by decide)) rfl T.g__law_covered K_law_covered B_law_covered V_law_covered pass0 (pa_cons (pv 0) (pa_cons (pv 4) (pa_cons (pv 5) pa_nil)))))
      (pss_one (ps_expr (pe_bm PySem.F.plainAttrs_list PySem.F.slot_list_append PySem.F.type_list_append mt_append (pv 3) (pa_cons (pe_tup (pa_cons pe_str (pa_cons (pe_call G_law_covered (hr.mono (by decide)) rfl T.g__law_covered K_law_covered B_law_covered V_law_covered pass0 (pa_cons (pv 6) (pa_cons (pe_op op_add (pv 4) (pv 2)) (pa_cons (pe_op op_sub (pe_op op_add (pv 5) pe_int) (pv 2)) pa_nil)))) pa_nil))) pa_nil))))) pss_nil)))))
      (pss_one (ps_ret (pv 3))))))
theorem ok_Floor_p_covered {P : Program} {w : World} {K : PySem.W.Frag} {mg : Str → Option Value} {base : Heap} (T : Txt w K mg) (D_Floor_d_init : O_Floor_d_init P w K mg base) : O_Floor_p_covered P w K mg base := by
  obtain ⟨fd_Floor_d_init, X_Floor_d_init, G_Floor_d_init⟩ := D_Floor_d_init.ex
  have K_Floor_d_init := X_Floor_d_init.kp
  have B_Floor_d_init := X_Floor_d_init.bindsN (ps := ["self", "rows"]) fun _ _ _ _ _ _ us hl => match us, hl with | [_, _], _ => rfl
  have V_Floor_d_init : Vals [] [] := .nil
  obtain ⟨fd, X⟩ := T.d_Floor_p_covered
  refine ⟨fd, X, X.ok sc_Floor_p_covered (fun vs H Q E h => len_Floor_p_covered h) (fun cdv A outer s H vs Q E hr h => ⟨t_Floor_p_covered K E, PSs.nox ?_, pure_Floor_p_covered T.FFloor vs H Q E h⟩)⟩
  exact (pss_cons (ps_setLc (i := 2) (own := [("row", 3)]) (g := (gName 3)) (tt := tYes) rfl sc_Floor_p_covered.nd rfl rfl (sw_true rfl rfl rfl (by decide +kernel)) (pi_tup (pe_fld (pv 0) rfl)) (blkOk_by (N := R_Floor_p_covered) (sc := defScope s_Floor_p_covered) (by decide +kernel)) (fun _ _ _ _ _ => (pg_name (i := 3) sc_Floor_p_covered.nd rfl (Or.inl rfl))) (fun _ _ _ _ _ => pts_nil) (fun _ _ _ _ _ => (pe_callTy (cr_listS rfl) rfl T.z_list (by decide +kernel) (pa_cons (pv 3) pa_nil))))
      (pss_cons (ps_for PassesOwn.never rfl (pi_list (pv 1)) (pg_tup rfl (pgs_cons (pg_name (i := 3) sc_Floor_p_covered.nd rfl (Or.inl rfl)) (pgs_cons (pg_name (i := 4) sc_Floor_p_covered.nd rfl (Or.inl rfl)) pgs_nil)))
      (pss_one (ps_asg (C8.pe_gc rfl (cst_okS T.c_COVERED)) (pg_sub (pe_ix ix_list (pv 2) (pv 3) (fun _ _ => rfl)) (pv 4) set_list))))
      (pss_one (ps_ret (pe_make T.mk_Floor G_Floor_d_init (hr.mono (by decide)) rfl T.g_Floor B_Floor_d_init V_Floor_d_init passL (pa_cons (pe_lc (own := [("row", 3)]) (g := (gName 3)) (tt := tYes) rfl sc_Floor_p_covered.nd (pi_list (pv 2)) (blkOk_by (N := R_Floor_p_covered) (sc := defScope s_Floor_p_covered) (by decide +kernel)) (fun _ _ _ _ _ => (pg_name (i := 3) sc_Floor_p_covered.nd rfl (Or.inl rfl))) (fun _ _ _ _ _ => pts_nil) (fun _ _ _ _ _ => (pe_bm PySem.F.plainAttrs_str PySem.F.slot_str_join PySem.F.type_str_join mt_joinS pe_str (pa_cons (pv 3) pa_nil)))) pa_nil))))))
theorem ok_Floor_m_moves {P : Program} {w : World} {K : PySem.W.Frag} {mg : Str → Option Value} {base : Heap} (T : Txt w K mg) (D_Floor_p_cells : O_Floor_p_cells P w K mg base) (D_Floor_p_is_free : O_Floor_p_is_free P w K mg base) (D_Floor_p_covered : O_Floor_p_covered P w K mg base) : O_Floor_m_moves P w K mg base := by
  obtain ⟨fd_Floor_p_cells, X_Floor_p_cells, G_Floor_p_cells⟩ := D_Floor_p_cells.ex
  have K_Floor_p_cells := X_Floor_p_cells.kp
  have B_Floor_p_cells := X_Floor_p_cells.bindsN (ps := ["self"]) fun _ _ _ _ _ _ us hl => match us, hl with | [_], _ => rfl
  have V_Floor_p_cells : Vals [] [] := .nil
  obtain ⟨fd_Floor_p_is_free, X_Floor_p_is_free, G_Floor_p_is_free⟩ := D_Floor_p_is_free.ex
  have K_Floor_p_is_free := X_Floor_p_is_free.kp
  have B_Floor_p_is_free := X_Floor_p_is_free.bindsN (ps := ["self", "row", "column"]) fun _ _ _ _ _ _ us hl => match us, hl with | [_, _, _], _ => rfl
  have V_Floor_p_is_free : Vals [] [] := .nil
  obtain ⟨fd_Floor_p_covered, X_Floor_p_covered, G_Floor_p_covered⟩ := D_Floor_p_covered.ex
  have K_Floor_p_covered := X_Floor_p_covered.kp
  have B_Floor_p_covered := X_Floor_p_covered.bindsN (ps := ["self", "cells"]) fun _ _ _ _ _ _ us hl => match us, hl with | [_, _], _ => rfl
  have V_Floor_p_covered : Vals [] [] := .nil
  obtain ⟨fd, X⟩ := T.d_Floor_m_moves
  refine ⟨fd, X, X.ok sc_Floor_m_moves (fun vs H Q E h => len_Floor_m_moves h) (fun cdv A outer s H vs Q E hr h => ⟨t_Floor_m_moves K E, PSs.nox ?_, pure_Floor_m_moves T.FFloor T.FSHAPES vs H Q E h⟩)⟩
  exact (pss_cons (ps_asg (pe_ix (ix_kd T.kd_SHAPES) (C8.pe_gc rfl ⟨_, T.g_SHAPES, rfl⟩) (pv 1) (fun _ _ => rfl)) (pg_tup rfl (pgs_cons (pg_name (i := 2) sc_Floor_m_moves.nd rfl (Or.inl rfl)) (pgs_cons (pg_name (i := 3) sc_Floor_m_moves.nd rfl (Or.inl rfl)) pgs_nil))))
      (pss_cons (ps_set (i := 4) sc_Floor_m_moves.nd rfl (Or.inl rfl) (pe_lst pa_nil))
      (pss_cons (ps_for PassesOwn.never rfl (pi_list (pe_meth0 (pv 0) T.cl_Floor T.mt_Floor__cells G_Floor_p_cells (hr.mono (by decide)) B_Floor_p_cells .nil pass0)) (pg_tup rfl (pgs_cons (pg_name (i := 5) sc_Floor_m_moves.nd rfl (Or.inl rfl)) (pgs_cons (pg_name (i := 6) sc_Floor_m_moves.nd rfl (Or.inl rfl)) pgs_nil)))
      (pss_cons (ps_set (i := 7) sc_Floor_m_moves.nd rfl (Or.inl rfl) (pe_tup (pa_cons (pe_op op_add (pv 5) (pv 2)) (pa_cons (pe_op op_add (pv 6) (pv 3)) pa_nil))))
      (pss_one (ps_if (PW.pt (pw_and (pt_val (pe_meth (pv 0) T.cl_Floor T.mt_Floor__is_free G_Floor_p_is_free (hr.mono (by decide)) B_Floor_p_is_free .nil pass0 (pa_cons (pv 5) (pa_cons (pv 6) pa_nil)))) (pw_and1 (pt_val (pe_meth (pv 0) T.cl_Floor T.mt_Floor__is_free G_Floor_p_is_free (hr.mono (by decide)) B_Floor_p_is_free .nil pass0 (pa_cons (pe_ix ix_tup (pv 7) pe_int (fun _ _ => rfl)) (pa_cons (pe_ix ix_tup (pv 7) pe_int (fun _ _ => rfl)) pa_nil))))))) (pss_one (ps_expr (pe_bm PySem.F.plainAttrs_list PySem.F.slot_list_append PySem.F.type_list_append mt_append (pv 4) (pa_cons (pe_meth (pv 0) T.cl_Floor T.mt_Floor__covered G_Floor_p_covered (hr.mono (by decide)) B_Floor_p_covered .nil pass0 (pa_cons (pe_lst (pa_cons (pe_tup (pa_cons (pv 5) (pa_cons (pv 6) pa_nil))) (pa_cons (pv 7) pa_nil))) pa_nil)) pa_nil)))) pss_nil))))
      (pss_one (ps_ret (pv 4))))))
theorem ok_law_counts {P : Program} {w : World} {K : PySem.W.Frag} {mg : Str → Option Value} {base : Heap} (T : Txt w K mg) (D_law_floor_moves : O_law_floor_moves P w K mg base) (D_Floor_m_moves : O_Floor_m_moves P w K mg base) (D_Floor_m_parts : O_Floor_m_parts P w K mg base) : O_law_counts P w K mg base := by
  obtain ⟨fd_law_floor_moves, X_law_floor_moves, G_law_floor_moves⟩ := D_law_floor_moves.ex
  have K_law_floor_moves := X_law_floor_moves.kp
  have B_law_floor_moves := X_law_floor_moves.bindsN (ps := ["rows", "side"]) fun _ _ _ _ _ _ us hl => match us, hl with | [_, _], _ => rfl
  have V_law_floor_moves : Vals [] [] := .nil
  obtain ⟨fd_Floor_m_moves, X_Floor_m_moves, G_Floor_m_moves⟩ := D_Floor_m_moves.ex
  have K_Floor_m_moves := X_Floor_m_moves.kp
  have B_Floor_m_moves := X_Floor_m_moves.bindsN (ps := ["self", "side"]) fun _ _ _ _ _ _ us hl => match us, hl with | [_, _], _ => rfl
  have V_Floor_m_moves : Vals [] [] := .nil
  obtain ⟨fd_Floor_m_parts, X_Floor_m_parts, G_Floor_m_parts⟩ := D_Floor_m_parts.ex
  have K_Floor_m_parts := X_Floor_m_parts.kp
  have B_Floor_m_parts := X_Floor_m_parts.bindsN (ps := ["self"]) fun _ _ _ _ _ _ us hl => match us, hl with | [_], _ => rfl
  have V_Floor_m_parts : Vals [] [] := .nil
  obtain ⟨fd, X⟩ := T.d_law_counts
  refine ⟨fd, X, X.ok sc_law_counts (fun vs H Q E h => len_law_counts h) (fun cdv A outer s H vs Q E hr h => ⟨t_law_counts K E, PSs.nox ?_, pure_law_counts vs H Q E h⟩)⟩
  exact (pss_cons (ps_set (i := 3) sc_law_counts.nd rfl (Or.inl rfl) (pe_callB cr_lenQ rfl T.z_len (by decide +kernel) (pa_cons (pe_call G_law_floor_moves (hr.mono (by decide)) rfl T.g__law_floor_moves K_law_floor_moves B_law_floor_moves V_law_floor_moves pass0 (pa_cons (pv 1) (pa_cons (pv 2) pa_nil))) pa_nil)))
      (pss_one (ps_ret (pe_and (pe_cmpR op_eq (pe_callB cr_lenQ rfl T.z_len (by decide +kernel) (pa_cons (pe_meth (pv 0) T.cl_Floor T.mt_Floor_moves G_Floor_m_moves (hr.mono (by decide)) B_Floor_m_moves .nil pass0 (pa_cons (pv 2) pa_nil)) pa_nil)) (pv 3) (nomark _)) (pe_one (pe_cmpR op_eq (pe_callB (cr_sum rfl) rfl T.z_sum (by decide +kernel) (pa_cons (pe_lc (own := [("part", 4)]) (g := (gName 4)) (tt := tYes) rfl sc_law_counts.nd (pi_list (pe_meth0 (pv 0) T.cl_Floor T.mt_Floor_parts G_Floor_m_parts (hr.mono (by decide)) B_Floor_m_parts .nil pass0)) (blkOk_by (N := R_law_counts) (sc := defScope s_law_counts) (by decide +kernel)) (fun _ _ _ _ _ => (pg_name (i := 4) sc_law_counts.nd rfl (Or.inl rfl))) (fun _ _ _ _ _ => pts_nil) (fun _ _ _ _ _ => (pe_callB cr_lenQ rfl T.z_len (by decide +kernel) (pa_cons (pe_meth (pv 4) T.cl_Floor T.mt_Floor_moves G_Floor_m_moves (hr.mono (by decide)) B_Floor_m_moves .nil pass0 (pa_cons (pv 2) pa_nil)) pa_nil)))) pa_nil)) (pv 3) (nomark _)))))))
theorem ok_law {P : Program} {w : World} {K : PySem.W.Frag} {mg : Str → Option Value} {base : Heap} (T : Txt w K mg) (D_law_rows : O_law_rows P w K mg base) (D_law_cell : O_law_cell P w K mg base) (D_Floor_d_init : O_Floor_d_init P w K mg base) (D_law_floor_parts : O_law_floor_parts P w K mg base) (D_law_told : O_law_told P w K mg base) (D_Floor_m_parts : O_Floor_m_parts P w K mg base) (D_Floor_m_value : O_Floor_m_value P w K mg base) (D_law_counts : O_law_counts P w K mg base) (D_Floor_m_moves : O_Floor_m_moves P w K mg base) (D_law_same : O_law_same P w K mg base) : O_law P w K mg base := by
  obtain ⟨fd_law_rows, X_law_rows, G_law_rows⟩ := D_law_rows.ex
  have K_law_rows := X_law_rows.kp
  have B_law_rows := X_law_rows.bindsN (ps := ["cell"]) fun _ _ _ _ _ _ us hl => match us, hl with | [_], _ => rfl
  have V_law_rows : Vals [] [] := .nil
  obtain ⟨fd_law_cell, X_law_cell, G_law_cell⟩ := D_law_cell.ex
  have K_law_cell := X_law_cell.kp
  have B_law_cell := X_law_cell.bindsN (ps := ["script", "k"]) fun _ _ _ _ _ _ us hl => match us, hl with | [_, _], _ => rfl
  have V_law_cell : Vals [] [] := .nil
  obtain ⟨fd_Floor_d_init, X_Floor_d_init, G_Floor_d_init⟩ := D_Floor_d_init.ex
  have K_Floor_d_init := X_Floor_d_init.kp
  have B_Floor_d_init := X_Floor_d_init.bindsN (ps := ["self", "rows"]) fun _ _ _ _ _ _ us hl => match us, hl with | [_, _], _ => rfl
  have V_Floor_d_init : Vals [] [] := .nil
  obtain ⟨fd_law_floor_parts, X_law_floor_parts, G_law_floor_parts⟩ := D_law_floor_parts.ex
  have K_law_floor_parts := X_law_floor_parts.kp
  have B_law_floor_parts := X_law_floor_parts.bindsN (ps := ["rows"]) fun _ _ _ _ _ _ us hl => match us, hl with | [_], _ => rfl
  have V_law_floor_parts : Vals [] [] := .nil
  obtain ⟨fd_law_told, X_law_told, G_law_told⟩ := D_law_told.ex
  have K_law_told := X_law_told.kp
  have B_law_told := X_law_told.bindsN (ps := ["boards", "dues"]) fun _ _ _ _ _ _ us hl => match us, hl with | [_, _], _ => rfl
  have V_law_told : Vals [] [] := .nil
  obtain ⟨fd_Floor_m_parts, X_Floor_m_parts, G_Floor_m_parts⟩ := D_Floor_m_parts.ex
  have K_Floor_m_parts := X_Floor_m_parts.kp
  have B_Floor_m_parts := X_Floor_m_parts.bindsN (ps := ["self"]) fun _ _ _ _ _ _ us hl => match us, hl with | [_], _ => rfl
  have V_Floor_m_parts : Vals [] [] := .nil
  obtain ⟨fd_Floor_m_value, X_Floor_m_value, G_Floor_m_value⟩ := D_Floor_m_value.ex
  have K_Floor_m_value := X_Floor_m_value.kp
  have B_Floor_m_value := X_Floor_m_value.bindsN (ps := ["self"]) fun _ _ _ _ _ _ us hl => match us, hl with | [_], _ => rfl
  have V_Floor_m_value : Vals [] [] := .nil
  obtain ⟨fd_law_counts, X_law_counts, G_law_counts⟩ := D_law_counts.ex
  have K_law_counts := X_law_counts.kp
  have B_law_counts := X_law_counts.bindsN (ps := ["board", "rows", "side"]) fun _ _ _ _ _ _ us hl => match us, hl with | [_, _, _], _ => rfl
  have V_law_counts : Vals [] [] := .nil
  obtain ⟨fd_Floor_m_moves, X_Floor_m_moves, G_Floor_m_moves⟩ := D_Floor_m_moves.ex
  have K_Floor_m_moves := X_Floor_m_moves.kp
  have B_Floor_m_moves := X_Floor_m_moves.bindsN (ps := ["self", "side"]) fun _ _ _ _ _ _ us hl => match us, hl with | [_, _], _ => rfl
  have V_Floor_m_moves : Vals [] [] := .nil
  obtain ⟨fd_law_same, X_law_same, G_law_same⟩ := D_law_same.ex
  have K_law_same := X_law_same.kp
  have B_law_same := X_law_same.bindsN (ps := ["told", "due"]) fun _ _ _ _ _ _ us hl => match us, hl with | [_, _], _ => rfl
  have V_law_same : Vals [] [] := .nil
  obtain ⟨fd, X⟩ := T.d_law
  refine ⟨fd, X, X.ok sc_law (fun vs H Q E h => len_law h) (fun cdv A outer s H vs Q E hr h => ⟨t_law K E, PSs.nox ?_, pure_law vs H Q E h⟩)⟩
  exact (pss_cons (ps_set (i := 1) sc_law.nd rfl (Or.inl rfl) (pe_callTy cr_tupL rfl T.z_tuple (by decide +kernel) (pa_cons (pe_call G_law_rows (hr.mono (by decide)) rfl T.g__law_rows K_law_rows B_law_rows V_law_rows pass0 (pa_cons (pe_call G_law_cell (hr.mono (by decide)) rfl T.g__law_cell K_law_cell B_law_cell V_law_cell pass0 (pa_cons (pv 0) (pa_cons pe_int pa_nil))) pa_nil)) pa_nil)))
      (pss_cons (ps_set (i := 2) sc_law.nd rfl (Or.inl rfl) (pe_make T.mk_Floor G_Floor_d_init (hr.mono (by decide)) rfl T.g_Floor B_Floor_d_init V_Floor_d_init passL (pa_cons (pe_callTy cr_listQ rfl T.z_list (by decide +kernel) (pa_cons (pv 1) pa_nil)) pa_nil)))
      (pss_cons (ps_set (i := 3) sc_law.nd rfl (Or.inl rfl) (pe_call G_law_floor_parts (hr.mono (by decide)) rfl T.g__law_floor_parts K_law_floor_parts B_law_floor_parts V_law_floor_parts pass0 (pa_cons (pv 1) pa_nil)))
      (pss_cons (ps_if (PW.pt (pw_or (pt_not (pt_val (pe_call G_law_told (hr.mono (by decide)) rfl T.g__law_told K_law_told B_law_told V_law_told pass0 (pa_cons (pe_meth0 (pv 2) T.cl_Floor T.mt_Floor_parts G_Floor_m_parts (hr.mono (by decide)) B_Floor_m_parts .nil pass0) (pa_cons (pv 3) pa_nil))))) (pw_or1 (pt_not (pt_val (pe_call G_law_told (hr.mono (by decide)) rfl T.g__law_told K_law_told B_law_told V_law_told pass0 (pa_cons (pe_meth0 (pv 2) T.cl_Floor T.mt_Floor_parts G_Floor_m_parts (hr.mono (by decide)) B_Floor_m_parts .nil pass0) (pa_cons (pv 3) pa_nil)))))))) (pss_one (ps_ret pe_bl)) pss_nil)
      (pss_cons (ps_for PassesOwn.never rfl (pi_list (pe_meth0 (pv 2) T.cl_Floor T.mt_Floor_parts G_Floor_m_parts (hr.mono (by decide)) B_Floor_m_parts .nil pass0)) (pg_name (i := 4) sc_law.nd rfl (Or.inl rfl))
      (pss_one (ps_if (pt_not (pt_val (pe_call G_law_told (hr.mono (by decide)) rfl T.g__law_told K_law_told B_law_told V_law_told pass0 (pa_cons (pe_meth0 (pv 4) T.cl_Floor T.mt_Floor_parts G_Floor_m_parts (hr.mono (by decide)) B_Floor_m_parts .nil pass0) (pa_cons (pe_lst (pa_cons (pe_meth0 (pv 4) T.cl_Floor T.mt_Floor_value G_Floor_m_value (hr.mono (by decide)) B_Floor_m_value .nil pass0) pa_nil)) pa_nil))))) (pss_one (ps_ret pe_bl)) pss_nil)))
      (pss_cons (ps_if (PW.pt (pw_or (pt_not (pt_val (pe_call G_law_counts (hr.mono (by decide)) rfl T.g__law_counts K_law_counts B_law_counts V_law_counts pass0 (pa_cons (pv 2) (pa_cons (pv 1) (pa_cons pe_str pa_nil)))))) (pw_or1 (pt_not (pt_val (pe_call G_law_counts (hr.mono (by decide)) rfl T.g__law_counts K_law_counts B_law_counts V_law_counts pass0 (pa_cons (pv 2) (pa_cons (pv 1) (pa_cons pe_str pa_nil))))))))) (pss_one (ps_ret pe_bl)) pss_nil)
      (pss_cons (ps_if (PW.pt (pw_and (pt_cmpR (op_eqN hr.units) (pe_meth (pv 2) T.cl_Floor T.mt_Floor_moves G_Floor_m_moves (hr.mono (by decide)) B_Floor_m_moves .nil pass0 (pa_cons pe_str pa_nil)) (pe_lst pa_nil) (nomark _)) (pw_and (pt_cmpR (op_eqN hr.units) (pe_meth (pv 2) T.cl_Floor T.mt_Floor_moves G_Floor_m_moves (hr.mono (by decide)) B_Floor_m_moves .nil pass0 (pa_cons pe_str pa_nil)) (pe_lst pa_nil) (nomark _)) (pw_and1 (pt_cmpR op_gt (pe_callB cr_lenQ rfl T.z_len (by decide +kernel) (pa_cons (pv 3) pa_nil)) pe_int (nomark _)))))) (pss_one (ps_ret pe_bl)) pss_nil)
      (pss_one (ps_ret (pe_call G_law_same (hr.mono (by decide)) rfl T.g__law_same K_law_same B_law_same V_law_same pass0 (pa_cons (pe_meth0 (pv 2) T.cl_Floor T.mt_Floor_value G_Floor_m_value (hr.mono (by decide)) B_Floor_m_value .nil pass0) (pa_cons (pe_tup (pa_cons pe_str (pa_cons (pv 1) pa_nil))) pa_nil))))))))))))
theorem all_ok {P : Program} {w : World} {K : PySem.W.Frag} {mg : Str → Option Value} {base : Heap} (T : Txt w K mg) : O_law P w K mg base := by
  have h_law_digits : O_law_digits P w K mg base := ok_law_digits T 
  have h_law_rows : O_law_rows P w K mg base := ok_law_rows T h_law_digits
  have h_law_cell : O_law_cell P w K mg base := ok_law_cell T 
  have h_Floor_d_init : O_Floor_d_init P w K mg base := ok_Floor_d_init T 
  have h_law_clipped : O_law_clipped P w K mg base := ok_law_clipped T 
  have h_law_floor_parts : O_law_floor_parts P w K mg base := ok_law_floor_parts T h_law_clipped
  have h_law_same : O_law_same P w K mg base := ok_law_same T 
  have h_Floor_m_value : O_Floor_m_value P w K mg base := ok_Floor_m_value T 
  have h_law_told : O_law_told P w K mg base := ok_law_told T h_law_same h_Floor_m_value
  have h_Floor_p_cells : O_Floor_p_cells P w K mg base := ok_Floor_p_cells T 
  have h_Floor_p_is_free : O_Floor_p_is_free P w K mg base := ok_Floor_p_is_free T 
  have h_Floor_p_together : O_Floor_p_together P w K mg base := ok_Floor_p_together T h_Floor_p_is_free
  have h_rectangle : O_rectangle P w K mg base := ok_rectangle T h_Floor_d_init
  have h_Floor_m_parts : O_Floor_m_parts P w K mg base := ok_Floor_m_parts T h_Floor_p_cells h_Floor_p_is_free h_Floor_p_together h_rectangle
  have h_law_covered : O_law_covered P w K mg base := ok_law_covered T 
  have h_law_floor_moves : O_law_floor_moves P w K mg base := ok_law_floor_moves T h_law_covered
  have h_Floor_p_covered : O_Floor_p_covered P w K mg base := ok_Floor_p_covered T h_Floor_d_init
  have h_Floor_m_moves : O_Floor_m_moves P w K mg base := ok_Floor_m_moves T h_Floor_p_cells h_Floor_p_is_free h_Floor_p_covered
  have h_law_counts : O_law_counts P w K mg base := ok_law_counts T h_law_floor_moves h_Floor_m_moves h_Floor_m_parts
  have h_law : O_law P w K mg base := ok_law T h_law_rows h_law_cell h_Floor_d_init h_law_floor_parts h_law_told h_Floor_m_parts h_Floor_m_value h_law_counts h_Floor_m_moves h_law_same
  exact h_law
def fs : List (PySem.W.Frag → Bool) := [fun K => (He.Fa.glo "BadValue").ok K,
  fun K => (He.Fa.glo "Floor").ok K,
  fun K => (He.Fa.glo "NEXT_CELLS").ok K,
  fun K => (He.Fa.glo "SHAPES").ok K,
  fun K => (He.Fa.glo "_law_cell").ok K,
  fun K => (He.Fa.glo "_law_clipped").ok K,
  fun K => (He.Fa.glo "_law_counts").ok K,
  fun K => (He.Fa.glo "_law_covered").ok K,
  fun K => (He.Fa.glo "_law_digits").ok K,
  fun K => (He.Fa.glo "_law_floor_moves").ok K,
  fun K => (He.Fa.glo "_law_floor_parts").ok K,
  fun K => (He.Fa.glo "_law_rows").ok K,
  fun K => (He.Fa.glo "_law_same").ok K,
  fun K => (He.Fa.glo "_law_told").ok K,
  fun K => (He.Fa.glo "_rectangle").ok K,
  fun K => (He.Fa.glo "law").ok K,
  fun K => (He.Fa.free "abs").ok K,
  fun K => (He.Fa.free "all").ok K,
  fun K => (He.Fa.free "bool").ok K,
  fun K => (He.Fa.free "int").ok K,
  fun K => (He.Fa.free "isinstance").ok K,
  fun K => (He.Fa.free "len").ok K,
  fun K => (He.Fa.free "list").ok K,
  fun K => (He.Fa.free "max").ok K,
  fun K => (He.Fa.free "min").ok K,
  fun K => (He.Fa.free "range").ok K,
  fun K => (He.Fa.free "str").ok K,
  fun K => (He.Fa.free "sum").ok K,
  fun K => (He.Fa.free "tuple").ok K,
  fun K => (He.Fa.free "type").ok K,
  fun K => (He.Fa.str "COVERED" "#").ok K,
  fun K => (He.Fa.str "FREE" ".").ok K,
  fun K => (He.Fa.int "MOST_CELLS" (6)).ok K,
  fun K => tup2B K (He.ga K "NEXT_CELLS") [[V.int (-1), V.int (0)], [V.int (0), V.int (-1)], [V.int (0), V.int (1)], [V.int (1), V.int (0)]],
  fun K => kdB K "SHAPES" "left" [V.int (1), V.int (0)],
  fun K => kdB K "SHAPES" "right" [V.int (0), V.int (1)],
  fun K => (He.Fa.cls "Floor").ok K,
  fun K => (He.Fa.exc "BadValue").ok K,
  fun K => inscB K "Floor",
  fun K => (He.Fa.meth "Floor" "_cells").ok K,
  fun K => (He.Fa.meth "Floor" "_covered").ok K,
  fun K => (He.Fa.meth "Floor" "_is_free").ok K,
  fun K => (He.Fa.meth "Floor" "_together").ok K,
  fun K => (He.Fa.meth "Floor" "moves").ok K,
  fun K => (He.Fa.meth "Floor" "parts").ok K,
  fun K => (He.Fa.meth "Floor" "value").ok K,
  fun K => (He.Fa.mkr "Floor").ok K,
  fun K => (He.Fa.noat "Floor" "_rows").ok K]
def fn : List He5.DefA := [{ at_ := fun K => ad_law_digits K, name := "_law_digits", qual := "_law_digits", params := defArgs s_law_digits, body := defBody s_law_digits, scope := defScope s_law_digits, dfl := [] },
  { at_ := fun K => ad_law_rows K, name := "_law_rows", qual := "_law_rows", params := defArgs s_law_rows, body := defBody s_law_rows, scope := defScope s_law_rows, dfl := [] },
  { at_ := fun K => ad_law_cell K, name := "_law_cell", qual := "_law_cell", params := defArgs s_law_cell, body := defBody s_law_cell, scope := defScope s_law_cell, dfl := [] },
  { at_ := fun K => ad_Floor_d_init K, name := "__init__", qual := "Floor.__init__", params := defArgs s_Floor_d_init, body := defBody s_Floor_d_init, scope := defScope s_Floor_d_init, dfl := [] },
  { at_ := fun K => ad_law_clipped K, name := "_law_clipped", qual := "_law_clipped", params := defArgs s_law_clipped, body := defBody s_law_clipped, scope := defScope s_law_clipped, dfl := [] },
  { at_ := fun K => ad_law_floor_parts K, name := "_law_floor_parts", qual := "_law_floor_parts", params := defArgs s_law_floor_parts, body := defBody s_law_floor_parts, scope := defScope s_law_floor_parts, dfl := [] },
  { at_ := fun K => ad_law_same K, name := "_law_same", qual := "_law_same", params := defArgs s_law_same, body := defBody s_law_same, scope := defScope s_law_same, dfl := [] },
  { at_ := fun K => ad_Floor_m_value K, name := "value", qual := "Floor.value", params := defArgs s_Floor_m_value, body := defBody s_Floor_m_value, scope := defScope s_Floor_m_value, dfl := [] },
  { at_ := fun K => ad_law_told K, name := "_law_told", qual := "_law_told", params := defArgs s_law_told, body := defBody s_law_told, scope := defScope s_law_told, dfl := [] },
  { at_ := fun K => ad_Floor_p_cells K, name := "_cells", qual := "Floor._cells", params := defArgs s_Floor_p_cells, body := defBody s_Floor_p_cells, scope := defScope s_Floor_p_cells, dfl := [] },
  { at_ := fun K => ad_Floor_p_is_free K, name := "_is_free", qual := "Floor._is_free", params := defArgs s_Floor_p_is_free, body := defBody s_Floor_p_is_free, scope := defScope s_Floor_p_is_free, dfl := [] },
  { at_ := fun K => ad_Floor_p_together K, name := "_together", qual := "Floor._together", params := defArgs s_Floor_p_together, body := defBody s_Floor_p_together, scope := defScope s_Floor_p_together, dfl := [] },
  { at_ := fun K => ad_rectangle K, name := "_rectangle", qual := "_rectangle", params := defArgs s_rectangle, body := defBody s_rectangle, scope := defScope s_rectangle, dfl := [] },
  { at_ := fun K => ad_Floor_m_parts K, name := "parts", qual := "Floor.parts", params := defArgs s_Floor_m_parts, body := defBody s_Floor_m_parts, scope := defScope s_Floor_m_parts, dfl := [] },
  { at_ := fun K => ad_law_covered K, name := "_law_covered", qual := "_law_covered", params := defArgs s_law_covered, body := defBody s_law_covered, scope := defScope s_law_covered, dfl := [] },
  { at_ := fun K => ad_law_floor_moves K, name := "_law_floor_moves", qual := "_law_floor_moves", params := defArgs s_law_floor_moves, body := defBody s_law_floor_moves, scope := defScope s_law_floor_moves, dfl := [] },
  { at_ := fun K => ad_Floor_p_covered K, name := "_covered", qual := "Floor._covered", params := defArgs s_Floor_p_covered, body := defBody s_Floor_p_covered, scope := defScope s_Floor_p_covered, dfl := [] },
  { at_ := fun K => ad_Floor_m_moves K, name := "moves", qual := "Floor.moves", params := defArgs s_Floor_m_moves, body := defBody s_Floor_m_moves, scope := defScope s_Floor_m_moves, dfl := [] },
  { at_ := fun K => ad_law_counts K, name := "_law_counts", qual := "_law_counts", params := defArgs s_law_counts, body := defBody s_law_counts, scope := defScope s_law_counts, dfl := [] },
  { at_ := fun K => ad_law K, name := "law", qual := "law", params := defArgs s_law, body := defBody s_law, scope := defScope s_law, dfl := [] }]
def ts : List He.Tab := [(fun K => He.ga K "SHAPES", ["left", "right"])]
theorem txt_of {w : World} {K : PySem.W.Frag} {h : Heap} {mg : Str → Option Value} (X : K.In h) (G : h.Ns mainGlobals mg) (c : SaysMT fs fn ts w K) : Txt w K mg where
  g_BadValue := He.glo_ok X G (c.m.fact 0 rfl)
  g_Floor := He.glo_ok X G (c.m.fact 1 rfl)
  g_NEXT_CELLS := He.glo_ok X G (c.m.fact 2 rfl)
  g_SHAPES := He.glo_ok X G (c.m.fact 3 rfl)
  g__law_cell := He.glo_ok X G (c.m.fact 4 rfl)
  g__law_clipped := He.glo_ok X G (c.m.fact 5 rfl)
  g__law_counts := He.glo_ok X G (c.m.fact 6 rfl)
  g__law_covered := He.glo_ok X G (c.m.fact 7 rfl)
  g__law_digits := He.glo_ok X G (c.m.fact 8 rfl)
  g__law_floor_moves := He.glo_ok X G (c.m.fact 9 rfl)
  g__law_floor_parts := He.glo_ok X G (c.m.fact 10 rfl)
  g__law_rows := He.glo_ok X G (c.m.fact 11 rfl)
  g__law_same := He.glo_ok X G (c.m.fact 12 rfl)
  g__law_told := He.glo_ok X G (c.m.fact 13 rfl)
  g__rectangle := He.glo_ok X G (c.m.fact 14 rfl)
  g_law := He.glo_ok X G (c.m.fact 15 rfl)
  z_abs := He.free_ok X G (c.m.fact 16 rfl)
  z_all := He.free_ok X G (c.m.fact 17 rfl)
  z_bool := He.free_ok X G (c.m.fact 18 rfl)
  z_int := He.free_ok X G (c.m.fact 19 rfl)
  z_isinstance := He.free_ok X G (c.m.fact 20 rfl)
  z_len := He.free_ok X G (c.m.fact 21 rfl)
  z_list := He.free_ok X G (c.m.fact 22 rfl)
  z_max := He.free_ok X G (c.m.fact 23 rfl)
  z_min := He.free_ok X G (c.m.fact 24 rfl)
  z_range := He.free_ok X G (c.m.fact 25 rfl)
  z_str := He.free_ok X G (c.m.fact 26 rfl)
  z_sum := He.free_ok X G (c.m.fact 27 rfl)
  z_tuple := He.free_ok X G (c.m.fact 28 rfl)
  z_type := He.free_ok X G (c.m.fact 29 rfl)
  c_COVERED := He.str_ok X G (c.m.fact 30 rfl)
  c_FREE := He.str_ok X G (c.m.fact 31 rfl)
  c_MOST_CELLS := He.int_ok X G (c.m.fact 32 rfl)
  tx_NEXT_CELLS := tup2B_ok (c.m.fact 33 rfl)
  tk_SHAPES_left := kdB_ok (c.m.fact 34 rfl)
  tk_SHAPES_right := kdB_ok (c.m.fact 35 rfl)
  cl_Floor := He.cls_ok (c.m.fact 36 rfl)
  x_BadValue := He.exc_ok (c.m.fact 37 rfl)
  ic_Floor := insc_ok (c.m.fact 38 rfl)
  mt_Floor__cells := He.meth_ok (c.m.fact 39 rfl)
  mt_Floor__covered := He.meth_ok (c.m.fact 40 rfl)
  mt_Floor__is_free := He.meth_ok (c.m.fact 41 rfl)
  mt_Floor__together := He.meth_ok (c.m.fact 42 rfl)
  mt_Floor_moves := He.meth_ok (c.m.fact 43 rfl)
  mt_Floor_parts := He.meth_ok (c.m.fact 44 rfl)
  mt_Floor_value := He.meth_ok (c.m.fact 45 rfl)
  mk_Floor := He.mkr_ok (c.m.fact 46 rfl)
  na_Floor__rows := He.noat_ok (c.m.fact 47 rfl)
  d_law_digits := c.m.dfn 0 rfl
  d_law_rows := c.m.dfn 1 rfl
  d_law_cell := c.m.dfn 2 rfl
  d_Floor_d_init := c.m.dfn 3 rfl
  d_law_clipped := c.m.dfn 4 rfl
  d_law_floor_parts := c.m.dfn 5 rfl
  d_law_same := c.m.dfn 6 rfl
  d_Floor_m_value := c.m.dfn 7 rfl
  d_law_told := c.m.dfn 8 rfl
  d_Floor_p_cells := c.m.dfn 9 rfl
  d_Floor_p_is_free := c.m.dfn 10 rfl
  d_Floor_p_together := c.m.dfn 11 rfl
  d_rectangle := c.m.dfn 12 rfl
  d_Floor_m_parts := c.m.dfn 13 rfl
  d_law_covered := c.m.dfn 14 rfl
  d_law_floor_moves := c.m.dfn 15 rfl
  d_Floor_p_covered := c.m.dfn 16 rfl
  d_Floor_m_moves := c.m.dfn 17 rfl
  d_law_counts := c.m.dfn 18 rfl
  d_law := c.m.dfn 19 rfl
  kd_SHAPES := c.tab 0 rfl
def loose : List PySem.Str := (["PlayError", "BadValue", "MOST_CELLS", "FREE", "COVERED", "SHAPES", "NEXT_CELLS", "Floor", "_rectangle", "_law_cell", "_law_digits", "_law_same", "_law_covered", "_law_floor_moves", "_law_clipped", "_law_floor_parts", "_law_rows", "_law_told", "_law_counts"] : List PySem.Str)
abbrev R : PySem.W.OpenRow := PySem.W.OpenLaw.row PySem.Challenge.rw_sumsplay_k59_parts_of_floors
abbrev hk : PySem.W.Hook := hookMT 6 fs fn ts
def ob (s : PySem.W.SharedT) : AlM := obsMTG 6 fs fn ts (HandSHeadRun.getT s)
theorem ob_eq (s : PySem.W.SharedT) : ob s = hk.obs s.abs := obsMTG_eq (HandSHeadRun.getT_eq s)
theorem run (w : World) : HandSHeadRun.RunEq R (PySem.W.view R.prog [22]) hk ob 20000 loose w := by
  refine bothF (p := fun w => HandSHeadRun.RunEq R (PySem.W.view R.prog [22]) hk ob 20000 loose w) (fun w os => ?_) (fun w os => ?_) w
  · kernel_rfl
  · kernel_rfl
theorem facts {P : Program} {w : World} {K : PySem.W.Frag} {h : Heap} {mg : Str → Option Value} {f : Addr} (X : K.In h) (G : h.Ns mainGlobals mg) (hfa : mg ("law" : Str) = some (.ref f)) (c : SaysMT fs fn ts w K) (hg : (He.Fa.glo "law").ok K = true) :
    ∃ fd : FuncData, (∀ (s : Shared) (v : Value), BindsTo s fd ⟨[v], []⟩ [("script", v)]) ∧ ∀ base : Heap, K.In base → base.Ns mainGlobals mg → FnOk P w K mg base CX0 7 f fd ["script"] (sp_law K) := by
  have T := txt_of X G c
  obtain ⟨fd, F⟩ := T.d_law
  have e := hfa.symm.trans (He.glo_ok X G hg)
  cases e
  have b := FunD.bindsA (ps := ["script"]) F fun _ _ _ _ _ _ us hl => match us, hl with | [_], _ => rfl
  refine ⟨fd, fun s v => b s [v] rfl, fun base _ _ => ?_⟩
  obtain ⟨fd2, F2, G2⟩ := (all_ok (P := P) (w := w) (base := base) T).ex
  have e2 : fd2 = fd := fd_same F2 F
  rw [← e2]; exact G2
end Mine
open PySem PySem.W PySem.Calls PyProof.Rows
set_option maxRecDepth 100000 in
set_option maxHeartbeats 0 in
theorem PySem.Challenge.cw_sumsplay_k59_parts_of_floors_holds : PySem.Challenge.rw_sumsplay_k59_parts_of_floors.Holds := by
  w_on; o_law
  refine HandSHeadRun.head_any (r := OpenLaw.row PySem.Challenge.rw_sumsplay_k59_parts_of_floors) (q := view (OpenLaw.row PySem.Challenge.rw_sumsplay_k59_parts_of_floors).prog [22]) (H := Mine.hk) (ob := Mine.ob) (M := 20000) (loose := Mine.loose) (d := HandSHeadRun.topDef (OpenLaw.row PySem.Challenge.rw_sumsplay_k59_parts_of_floors).prog 22) (kwd := []) Mine.ob_eq
    (by kernel_rfl) (fun s => by kernel_rfl) Mine.run (by kernel_rfl) (by kernel_rfl) (by kernel_rfl) (by rfl) (by first | assumption | decide +kernel) (by decide +kernel) ⟨rfl, rfl, rfl, rfl, rfl, by decide +kernel⟩ ?hw ?hc
  case hw => w_witness2
  case hc =>
    refine L2.walk_ofE (l := PySem.Challenge.rw_sumsplay_k59_parts_of_floors) (n := 63) (k := 7) (x := "script") (CX := L2.CX0) rfl (by decide) (by kernel_rfl) ⟨rfl, by decide, by decide⟩ ?F (fun _ _ _ _ z => z)
    intro w mg fa h Y G hmg0
    obtain ⟨K, KX, c⟩ := Y
    have hmg : mg ("law" : PySem.Str) = some (.ref fa) := by
      have e : (HandSHeadRun.topDef (OpenLaw.row PySem.Challenge.rw_sumsplay_k59_parts_of_floors).prog 22).name = ("law" : PySem.Str) := by kernel_rfl
      rw [← e]
      exact hmg0
    obtain ⟨fd, hb, hF⟩ := Mine.facts (P := (PySem.Challenge.rw_sumsplay_k59_parts_of_floors).prog) (w := w) KX G hmg c (c.m.fact 15 rfl)
    exact ⟨K, fd, Mine.sp_law K, KX, hb, fun H a ns hl _ hS => ⟨⟨a, ns, rfl, hS⟩, fun v H' e => e⟩, hF⟩
