import PyProof.Rows.All
import Wide.All
import OpenK.AllK
import Wide.FinOn
import HandS.ForMost
import HandS.ForExc
import HandS.Defaults
import HandS.MakeKw
import HandS.MakeKwOnly
import HandS.IsInst
import HandS.Codes
import HandS.Property
import HandS.Evl
import HandS.Steps
import HandS.More
import HandS.WideBits
import HandS.Wide
import HandS.FStr
import HandS.HeadEnd
import HandS.HeadHook2
import HandS.HeadHook4
import HandS.HeadNt
import HandS.Head0
import HandS.Head1
import HandS.Head2
import HandS.ExcIs
import KE.KOpsOwn
import HandS.HeadHook3
import KE.BitLaws
import KE.KeyNested
import PyProof.Rows.TupDisplay
import HandS.Dict
import HandS.SetFor
import HandS.Strs
import PyProof.Rows.SetFrom
import HandS.TupAny
import HandS.SortInts
import KE.KEqDeep
import HandS.Style
import HandS.WordsExc
import HandS.ExcOwn
import HandS.CallSlots
import HandS.Iter
import KE.GoesEnum
import KE.GoesMore
import HandS.Star
import HandS.TupMul
import HandS.Text
import KE.KSetDisp
import KE.GoesSet
import PyProof.StrBlock2
import HandS.DictComp
import HandS.Small
import HandS.Flow
import HandS.Deep
import HandS.DeepEq
import HandS.DictTup
import HandS.TupLen
import HandS.Walk
import PySem.Challenge.RW_sumsplay_k15_winning_moves_and_outcome
set_option Elab.async false
set_option linter.all false
set_option maxRecDepth 100000
set_option maxHeartbeats 4000000
namespace Mine
open PySem PySem.Spec PyProof.Rows L2
/-! a target o.f -/
section
variable {X : Cx} {o : Expr} {f : Str} {pos : Pos} {ta : TE}
def gFld (K : PySem.W.Frag) (ta : TE) (f : Str) : TG := fun v σ H Q => ta σ H fun x H1 =>
  ∃ a C dx fs, x = V.ref a ∧ H1 a = some (HO.ins C dx fs) ∧ Cls K C ∧ NoAttr K C f ∧ fs.length < 1000 ∧ Q σ (upd H1 a (HO.ins C dx (putF f v fs)))
theorem pg_fld (ho : PE X o ta) : PG X (.Attribute o f pos) (gFld X.K ta f) := by
  constructor
  intro pins s σ H v u Q I rv hw
  rw [assign_Attribute]
  apply wpAny_bind
  apply wpAny_holding
  refine thn (ho.run pins s σ H _ I hw) ?_
  rintro ov s1 ⟨x, H1, I1, rx, a, C, dx, fs, rfl, ea, hc, hn, hl, q⟩
  cases (show ov = Value.ref a from rx)
  apply wpAny_bind
  apply wpAny_standAt
  apply wpAny_bind
  apply wpAny_holding
  refine setattr_ok I1 ea hc hn hl rv ?_
  intro s3 I3
  exact wpAny_release ⟨σ, _, I3, q⟩
end

open Evl (Ex)
/-! readings by short names -/
abbrev rAddI : R2 := rI0 fun i j => .int (i + j)
abbrev rSubI : R2 := rI0 fun i j => .int (i - j)
abbrev rMulI : R2 := rI CMul fun i j => .int (i * j)
abbrev rDivI : R2 := rI CDiv fun i j => .int (i / j)
abbrev rDivW : R2 := rI CDivW fun i j => .int (i / j)
abbrev rMulW : R2 := rI CMulW fun i j => .int (i * j)
abbrev rModI : R2 := rI (fun _ j => 0 < j) fun i j => .int (i % j)
abbrev rPowI : R2 := rI CPow fun i j => .int (i ^ j.toNat)
abbrev rShlI : R2 := rI CPow fun i j => .int (i * 2 ^ j.toNat)
abbrev rShrI : R2 := rI (fun _ j => 0 ≤ j) fun i j => .int (i / 2 ^ j.toNat)
abbrev rAndI : R2 := rI0 fun i j => .int (Builtin.bitAnd i j)
abbrev rOrI : R2 := rI0 fun i j => .int (Builtin.bitOr i j)
abbrev rXorI : R2 := rI0 fun i j => .int (Builtin.bitXor i j)
abbrev rLtI : R2 := rI0 fun i j => .bl (decide (i < j))
abbrev rLeI : R2 := rI0 fun i j => .bl (decide (i ≤ j))
abbrev rGtI : R2 := rI0 fun i j => .bl (decide (j < i))
abbrev rGeI : R2 := rI0 fun i j => .bl (decide (j ≤ i))
abbrev rNegI : V → Hp → VK → Prop := rU fun i => .int (-i)
def rIsTy : R2 := fun x y H Q => ∃ a b, x = V.ty a ∧
  y = V.ty b ∧ Q (.bl (decide (a = b))) H
def rIntI : List V → Hp → VK → Prop := fun xs H Q => ∃ i, xs = [V.int i] ∧ Q (.int i) H
def rAbsI : List V → Hp → VK → Prop := fun xs H Q => ∃ i, xs = [V.int i] ∧ Q (.int (if i < 0 then -i else i)) H
def rMax2 : List V → Hp → VK → Prop := fun xs H Q => ∃ i j, xs = [V.int i, V.int j] ∧
  Q (.int (if j > i then j else i)) H
def rMin2 : List V → Hp → VK → Prop := fun xs H Q => ∃ i j, xs = [V.int i, V.int j] ∧
  Q (.int (if j < i then j else i)) H
def rLenQ (K : PySem.W.Frag) : List V → Hp → VK → Prop := fun xs H Q => ∃ p ys, xs = [V.ref p] ∧
  (SqL K H p ys ∨ SqT K H p ys) ∧ Q (.int ys.length) H
def rLenS : List V → Hp → VK → Prop := fun xs H Q => ∃ z, xs = [V.str z] ∧ z.length ≤ sizeLine ∧
  Q (.int z.length) H
def rListQ (K : PySem.W.Frag) : List V → Hp → VK → Prop := fun xs H Q => ∃ p ys, xs = [V.ref p] ∧
  (SqL K H p ys ∨ SqT K H p ys) ∧ ∀ l, H l = none → Q (.ref l) (upd H l (.lst ys))
def rStrI : List V → Hp → VK → Prop := fun xs H Q => ∃ i, xs = [V.int i] ∧ i.natAbs.log2 < 1920 ∧
  Q (.str (toString i)) H
def rIsC (C : Addr) : List V → Hp → VK → Prop := fun xs H Q => ∃ a dx fs, xs = [V.ref a, V.ref C] ∧
  H a = some (HO.ins C dx fs) ∧ Q (.bl true) H
def rCatS : R2 := fun x y H Q => ∃ i j, x = V.str i ∧ y = V.str j ∧ i.length + j.length ≤ sizeLine ∧
  Q (.str (i ++ j)) H
section
variable {X : Cx}
theorem cr_intI : CallR X (.type "int") rIntI := fun pins s σ H xs us Q I r h =>
  call_int1 pins s σ H xs us Q I r (Or.inl h)
theorem cr_absI : CallR X (.builtin "abs") rAbsI := call_abs
theorem cr_max2 (hc : X.calm = true) : CallR X (.builtin "max") rMax2 := call_max2 hc
theorem cr_min2 (hc : X.calm = true) : CallR X (.builtin "min") rMin2 := call_min2 hc
theorem cr_lenQ : CallR X (.builtin "len") (rLenQ X.K) := call_len_seq
theorem cr_lenS : CallR X (.builtin "len") rLenS := call_len_str
theorem cr_listQ : CallR X (.type "list") (rListQ X.K) := call_list_of
theorem cr_strI : CallR X (.type "str") rStrI := call_str_int
theorem cr_isC {C : Addr} (c : C8.InsC X.K C) : CallR X (.builtin "isinstance") (rIsC C) := C8.call_isC c
theorem cst_ok {x : Str} {i : Int} (h : ∃ t, X.mg x = some (.int i t)) : ∃ u, X.mg x = some u ∧ RelV (.int i) u :=
  let ⟨t, e⟩ := h
  ⟨_, e, t, rfl⟩
end
/-! promises: what is asked, what is given, what is raised -/
def spR (pre : List V → Hp → Prop) (post : List V → Hp → V → Hp → Prop) : Sp := fun vs H Q _ =>
  pre vs H ∧ ∀ v H', post vs H v H' → Q v H'
def spX (pre : List V → Hp → Prop) (post : List V → Hp → V → Hp → Prop) (ex : List V → Hp → Value → Option Addr → Hp → Prop) : Sp := fun vs H Q E =>
  pre vs H ∧ (∀ v H', post vs H v H' → Q v H') ∧ ∀ c d H', ex vs H c d H' → E c d H'
structure DefOk (P : Program) (w : World) (K : PySem.W.Frag) (mg : Str → Option Value) (base : Heap) (CX : CXT) (k : Nat) (x qual : Str) (st : Stmt) (dvs : List V) (f : Addr) (ps : List Str) (sp : Sp) : Prop where
  ex : ∃ fd, FunD K x qual (defArgs st) (defBody st) (defScope st) dvs [] f fd ∧ FnOk P w K mg base CX k f fd ps sp
/-! readings, step by step, forwards -/
section
variable {σ : L2.St} {H : Hp} {Q : VK} {ta tb tc te tv : TE} {K : PySem.W.Frag} {D : Ends}
theorem k_var {i : Nat} {v : V} (h : σ[i]? = some (some v)) (q : Q v H) : tVar i σ H Q := ⟨v, h, q⟩
theorem k_c {v : V} (q : Q v H) : tC v σ H Q := q
theorem k_op {r : R2} (q : ta σ H fun x H1 => tb σ H1 fun y H2 => r x y H2 Q) : tOp r ta tb σ H Q := q
theorem k_un {r : V → Hp → VK → Prop} (q : ta σ H fun x H1 => r x H1 Q) : tUn r ta σ H Q := q
theorem k_I0 {g : Int → Int → V} {i j : Int} (q : Q (g i j) H) : rI0 g (.int i) (.int j) H Q := ⟨i, j, rfl, rfl, q⟩
theorem k_I {C : Int → Int → Prop} {g : Int → Int → V} {i j : Int} (c : C i j) (q : Q (g i j) H) : rI C g (.int i) (.int j) H Q := ⟨i, j, rfl, rfl, c, q⟩
theorem k_U {g : Int → V} {i : Int} (q : Q (g i) H) : rU g (.int i) H Q := ⟨i, rfl, q⟩
theorem k_eq {x y : V} (s : scal x y = true) (q : Q (.bl (decide (x = y))) H) : rEq x y H Q := ⟨s, q⟩
theorem k_ne {x y : V} (s : scal x y = true) (q : Q (.bl (!decide (x = y))) H) : rNe x y H Q := ⟨s, q⟩
theorem k_eqI {i j : Int} (q : Q (.bl (decide (i = j))) H) : rEq (.int i) (.int j) H Q := ⟨rfl, by
  have e : decide (V.int i = V.int j) = decide (i = j) := by simp
  rw [e]; exact q⟩
theorem k_eqB {i j : Bool} (q : Q (.bl (decide (i = j))) H) : rEq (.bl i) (.bl j) H Q := ⟨rfl, by
  have e : decide (V.bl i = V.bl j) = decide (i = j) := by simp
  rw [e]; exact q⟩
theorem k_neI {i j : Int} (q : Q (.bl (decide (i ≠ j))) H) : rNe (.int i) (.int j) H Q := ⟨rfl, by
  have e : (!decide (V.int i = V.int j)) = decide (i ≠ j) := by simp
  rw [e]; exact q⟩
theorem k_isTy {a b : String} (q : Q (.bl (decide (a = b))) H) : rIsTy (.ty a) (.ty b) H Q := ⟨a, b, rfl, rfl, q⟩
theorem k_isN {x : V} (q : Q (.bl (decide (x = .non))) H) : rIsN x .non H Q := ⟨rfl, q⟩
theorem k_notN {x : V} (q : Q (.bl (!decide (x = .non))) H) : rNotN x .non H Q := ⟨rfl, q⟩
theorem k_ixL {p : Addr} {xs : List V} {i : Int} {v : V} (h : SqL K H p xs) (e : atI xs i = some v) (q : Q v H) : rIxL K (.ref p) (.int i) H Q := ⟨p, xs, i, v, rfl, rfl, h, e, q⟩
theorem k_ixT {p : Addr} {xs : List V} {i : Int} {v : V} (h : SqT K H p xs) (e : atI xs i = some v) (q : Q v H) : rIxT K (.ref p) (.int i) H Q := ⟨p, xs, i, v, rfl, rfl, h, e, q⟩
theorem k_andV (q : ta σ H fun x H1 => ∃ c, x = .bl c ∧ if c = true then tb σ H1 Q else Q (.bl false) H1) : tAndV ta tb σ H Q := q
theorem k_orV (q : ta σ H fun x H1 => ∃ c, x = .bl c ∧ if c = true then Q (.bl true) H1 else tb σ H1 Q) : tOrV ta tb σ H Q := q
theorem k_notV (q : ta σ H fun x H1 => ∃ c, x = .bl c ∧ Q (.bl (!c)) H1) : tNotV ta σ H Q := q
theorem k_if {t : TT} (q : t σ H fun c H1 => if c = true then ta σ H1 Q else tb σ H1 Q) : tIf t ta tb σ H Q := q
theorem k_chain {r r' : R2} (q : ta σ H fun x H1 => tb σ H1 fun y H2 => r x y H2 fun z H3 => ∃ k, z = .bl k ∧ (if k = true then tc σ H3 fun w' H4 => r' y w' H4 Q else Q (.bl false) H3)) : tChain r r' ta tb tc σ H Q := q
theorem k_bl {P : Bool → Prop} {c : Bool} (q : P c) : ∃ k, V.bl c = V.bl k ∧ P k := ⟨c, rfl, q⟩
theorem k_tup {t : TA} (q : t σ H fun xs H1 => xs.length ≤ sizeLine ∧ ∀ p, H1 p = none → Q (.ref p) (upd H1 p (.tup xs))) : tTup t σ H Q := q
theorem k_lst {t : TA} (q : t σ H fun xs H1 => xs.length ≤ sizeLine ∧ ∀ p, H1 p = none → Q (.ref p) (upd H1 p (.lst xs))) : tLst t σ H Q := q
theorem k_cb {r : List V → Hp → VK → Prop} {t : TA} (q : t σ H fun vs H1 => r vs H1 Q) : tCB r t σ H Q := q
theorem k_nil {R : List V → Hp → Prop} (q : R [] H) : tNil σ H R := q
theorem k_cons {t : TA} {R : List V → Hp → Prop} (q : ta σ H fun x H1 => t σ H1 fun xs H2 => R (x :: xs) H2) : tCons ta t σ H R := q
theorem k_rInt {i : Int} (q : Q (.int i) H) : rIntI [.int i] H Q := ⟨i, rfl, q⟩
theorem k_rAbs {i : Int} (q : Q (.int (if i < 0 then -i else i)) H) : rAbsI [.int i] H Q := ⟨i, rfl, q⟩
theorem k_rMax {i j : Int} (q : Q (.int (if j > i then j else i)) H) : rMax2 [.int i, .int j] H Q := ⟨i, j, rfl, q⟩
theorem k_rMin {i j : Int} (q : Q (.int (if j < i then j else i)) H) : rMin2 [.int i, .int j] H Q := ⟨i, j, rfl, q⟩
theorem k_rLenL {p : Addr} {ys : List V} (h : SqL K H p ys) (q : Q (.int ys.length) H) : rLenQ K [.ref p] H Q := ⟨p, ys, rfl, Or.inl h, q⟩
theorem k_rLenT {p : Addr} {ys : List V} (h : SqT K H p ys) (q : Q (.int ys.length) H) : rLenQ K [.ref p] H Q := ⟨p, ys, rfl, Or.inr h, q⟩
theorem k_rStr {i : Int} (h : i.natAbs.log2 < 1920) (q : Q (.str (toString i)) H) : rStrI [.int i] H Q := ⟨i, rfl, h, q⟩
theorem k_rIsC {C a dx : Addr} {fs : List (Str × V)} (h : H a = some (.ins C dx fs)) (q : Q (.bl true) H) : rIsC C [.ref a, .ref C] H Q := ⟨a, dx, fs, rfl, h, q⟩
theorem k_isi {x c : V} {t u : Value} {b : Bool} (hc : ClsV c u) (ht : TyX K H x t) (e : PySem.W.kitOne K t u = some b) (q : Q (.bl b) H) : rIsi K [x, c] H Q := ⟨x, c, t, u, b, rfl, hc, ht, e, q⟩
theorem k_fld {a C dx : Addr} {fs : List (Str × V)} {f : Str} {v : V} (ha : ta σ H fun x H1 => x = .ref a ∧ H1 a = some (.ins C dx fs) ∧ Cls K C ∧ NoAttr K C f ∧ fs.lookup f = some v ∧ Q v H1)
    (mono : ∀ Q1 Q2 : VK, (∀ x H1, Q1 x H1 → Q2 x H1) → ta σ H Q1 → ta σ H Q2) : tFld K ta f σ H Q :=
  mono _ _ (fun _ _ ⟨h1, h2, h3, h4, h5, h6⟩ => ⟨a, C, dx, fs, v, h1, h2, h3, h4, h5, h6⟩) ha
theorem k_call {sp : Sp} {dvs : List V} {E : XK} {t : TA} (q : t σ H fun vs H1 => sp (vs ++ dvs) H1 Q E) : tCall sp dvs E t σ H Q := q
theorem k_meth {C : Addr} {m : Str} {sp : Sp} {dvs : List V} {E : XK} {t : TA} (q : ta σ H fun x H1 => ∃ a dx fs, x = .ref a ∧ H1 a = some (.ins C dx fs) ∧ fs.lookup m = none ∧ t σ H1 fun vs H2 => sp (x :: (vs ++ dvs)) H2 Q E) : tMeth C m sp dvs E ta t σ H Q := q
theorem k_make {C : Addr} {sp : Sp} {dvs : List V} {E : XK} {t : TA} (q : t σ H fun vs H1 => ∀ x dx, H1 x = none → H1 dx = none → dx ≠ x → sp (.ref x :: (vs ++ dvs)) (upd (upd H1 dx (.own x)) x (.ins C dx [])) (fun v H2 => v = .non ∧ Q (.ref x) H2) E) : tMake C sp dvs E t σ H Q := q
theorem k_prop {C : Addr} {sp : Sp} {dvs : List V} {E : XK} (q : ta σ H fun x H1 => ∃ a dx fs, x = .ref a ∧ H1 a = some (.ins C dx fs) ∧ sp (.ref a :: dvs) H1 Q E) : tProp C sp dvs E ta σ H Q := q
/-! tests -/
variable {t u : TT} {R : Bool → Hp → Prop}
theorem k_test (q : te σ H fun x H' => ∃ k, x = .bl k ∧ R k H') : tTest te σ H R := q
theorem k_B (q : te σ H fun x H' => ∃ k, x = .bl k ∧ R k H') : tB te σ H R := q
theorem k_and (q : t σ H fun c H1 => if c = true then u σ H1 R else R false H1) : tAnd t u σ H R := q
theorem k_or (q : t σ H fun c H1 => if c = true then R true H1 else u σ H1 R) : tOr t u σ H R := q
theorem k_not (q : t σ H fun c H1 => R (!c) H1) : tNot t σ H R := q
/-! statements -/
variable {t1 t2 : TS} {g : TG}
theorem k_seq (q : t1 { D with nx := t2 D } σ H) : tSeq t1 t2 D σ H := q
theorem k_next (q : D.nx σ H) : tNext D σ H := q
theorem k_asg (q : te σ H fun x H1 => g x σ H1 D.nx) : tAsg te g D σ H := q
theorem k_name {i : Nat} {v : V} {R : L2.St → Hp → Prop} (q : R (σ.set i (some v)) H) : gName i v σ H R := q
theorem k_ret (q : te σ H D.rt) : tRet te D σ H := q
theorem k_drop (q : te σ H fun _ H1 => D.nx σ H1) : tDrop te D σ H := q
theorem k_ifS (q : t σ H fun b H1 => if b = true then t1 D σ H1 else t2 D σ H1) : tIfS t t1 t2 D σ H := q
theorem k_gtup {n : Nat} {tg : TGs} {a : Addr} {xs : List V} {R : L2.St → Hp → Prop} (h : SqT K H a xs) (l : xs.length = n) (q : tg xs σ H R) : gTup K n tg (.ref a) σ H R := ⟨a, xs, rfl, h, l, q⟩
theorem k_gcons {tg : TG} {tr : TGs} {v : V} {r : List V} {R : L2.St → Hp → Prop} (q : tg v σ H fun σ' H' => tr r σ' H' R) : gCons tg tr (v :: r) σ H R := ⟨v, r, rfl, q⟩
theorem k_gnil {R : L2.St → Hp → Prop} (q : R σ H) : gNil [] σ H R := ⟨rfl, q⟩
theorem k_gfld {a C dx : Addr} {i : Nat} {fs : List (Str × V)} {f : Str} {v : V} {R : L2.St → Hp → Prop} (hs : σ[i]? = some (some (.ref a))) (h : H a = some (.ins C dx fs)) (hc : Cls K C) (hn : NoAttr K C f) (hl : fs.length < 1000) (q : R σ (upd H a (.ins C dx (putF f v fs)))) : gFld K (tVar i) f v σ H R :=
  ⟨_, hs, a, C, dx, fs, rfl, h, hc, hn, hl, q⟩
theorem k_fldv {a C dx : Addr} {i : Nat} {fs : List (Str × V)} {f : Str} {v : V} (hs : σ[i]? = some (some (.ref a))) (h : H a = some (.ins C dx fs)) (hc : Cls K C) (hn : NoAttr K C f) (hl : fs.lookup f = some v) (q : Q v H) : tFld K (tVar i) f σ H Q :=
  ⟨_, hs, a, C, dx, fs, v, rfl, h, hc, hn, hl, q⟩
theorem k_iteT {A B : Prop} (q : A) : if true = true then A else B := q
theorem k_iteF {A B : Prop} (q : B) : if false = true then A else B := by simpa using q
theorem k_pow12 (q : Q (.int 1000000000000) H) : rPowI (.int 10) (.int 12) H Q := k_I ⟨by decide, by decide, by decide⟩ q
theorem k_pow11 (q : Q (.int 100000000000) H) : rPowI (.int 10) (.int 11) H Q := k_I ⟨by decide, by decide, by decide⟩ q
theorem k_pow9 (q : Q (.int 1000000000) H) : rPowI (.int 10) (.int 9) H Q := k_I ⟨by decide, by decide, by decide⟩ q
theorem k_pow30 (q : Q (.int 1000000000000000000000000000000) H) : rPowI (.int 10) (.int 30) H Q := k_I ⟨by decide, by decide, by decide⟩ q
theorem k_pow18 (q : Q (.int 1000000000000000000) H) : rPowI (.int 10) (.int 18) H Q := k_I ⟨by decide, by decide, by decide⟩ q
theorem k_minL {i j : Int} (q : ∀ m, m ≤ i → m ≤ j → (m = i ∨ m = j) → Q (.int m) H) : rMin2 [.int i, .int j] H Q := by
  refine ⟨i, j, rfl, ?_⟩
  by_cases h : j < i
  · rw [if_pos h]; exact q j (by omega) (by omega) (Or.inr rfl)
  · rw [if_neg h]; exact q i (by omega) (by omega) (Or.inl rfl)
theorem k_maxL {i j : Int} (q : ∀ m, i ≤ m → j ≤ m → (m = i ∨ m = j) → Q (.int m) H) : rMax2 [.int i, .int j] H Q := by
  refine ⟨i, j, rfl, ?_⟩
  by_cases h : j > i
  · rw [if_pos h]; exact q j (by omega) (by omega) (Or.inr rfl)
  · rw [if_neg h]; exact q i (by omega) (by omega) (Or.inl rfl)
theorem k_shl1 {j : Int} (h : 0 ≤ j ∧ j ≤ 1000000) (q : ∀ m : Int, 1 ≤ m → m = 2 ^ j.toNat → Q (.int m) H) : rShlI (.int 1) (.int j) H Q := by
  refine k_I ⟨h.1, h.2, by decide⟩ ?_
  rw [Int.one_mul]
  refine q _ ?_ rfl
  have hp : (0 : Int) < 2 ^ j.toNat := Int.pow_pos (by decide)
  omega
theorem k_iteNT {A B : Prop} (q : B) : if (!true) = true then A else B := by simpa using q
theorem k_iteNF {A B : Prop} (q : A) : if (!false) = true then A else B := by simpa using q
theorem k_raise {E : XK} {c : Value} (q : E c none H) : tRaise E c D σ H := q
theorem k_iteD {p A B : Prop} [Decidable p] (h1 : p → A) (h2 : ¬ p → B) : if decide p = true then A else B := by
  by_cases h : p
  · rw [if_pos (decide_eq_true h)]; exact h1 h
  · rw [if_neg (by simpa using h)]; exact h2 h
theorem k_iteN {p A B : Prop} [Decidable p] (h1 : ¬ p → A) (h2 : p → B) : if (!decide p) = true then A else B := by
  by_cases h : p
  · rw [if_neg (by simpa using h)]; exact h2 h
  · rw [if_pos (by simpa using h)]; exact h1 h
theorem k_iteB {b : Bool} {A B : Prop} (h1 : b = true → A) (h2 : b = false → B) : if b = true then A else B := by
  cases b
  · rw [if_neg (by decide)]; exact h2 rfl
  · exact h1 rfl
theorem k_sq {a : Addr} {xs : List V} (h : H a = some (.lst xs)) : SqL K H a xs := Or.inl (Or.inl h)
theorem k_st {a : Addr} {xs : List V} (h : H a = some (.tup xs)) : SqT K H a xs := Or.inl (Or.inl h)
theorem k_while (W : Nat → L2.St → Hp → Prop) (m0 : Nat) (h0 : W m0 σ H)
    (hs : ∀ m σ H, W m σ H → t σ H fun b H1 => if b = true then ∃ N : L2.St → Hp → Prop, (∀ σ' H', N σ' H' → ∃ m', m' < m ∧ W m' σ' H') ∧
      t1 { D with nx := N, ct := N, bk := D.nx } σ H1 else D.nx σ H1) : tWhile t t1 D σ H := ⟨W, ⟨m0, h0⟩, hs⟩
/-- what a loop asks, by a word of its turns -/
def forK (g : TG) (tb : TS) (D : Ends) (σ : L2.St) : It → Hp → Prop := fun J H1 =>
  ∃ W : Nat → Nat → L2.St → Hp → Prop, (∃ m, W 0 m σ H1) ∧
    ∀ i m σ H, W i m σ H → (J.stop i H ∧ D.nx σ H) ∨ (J.go i H ∧
      ∃ N : L2.St → Hp → Prop, (∀ σ' H', N σ' H' → ∃ m', m' < m ∧ W (i + 1) m' σ' H') ∧
        ∀ x H', J.yld i H x H' → g x σ H' fun σ2 H2 => tb { D with nx := N, ct := N, bk := D.nx } σ2 H2)
theorem k_for {wi : TI} {g : TG} {tb : TS} (q : wi σ H (forK g tb D σ)) : tFor wi g tb D σ H := q
theorem k_rng1 {ta : TA} {R : It → Hp → Prop} (q : ta σ H fun vs H1 => ∃ j : Int, vs = [.int j] ∧
  -(2 ^ 62) ≤ j ∧ j < 2 ^ 62 ∧ R (Itr 0 j.toNat) H1) : iRng1 ta σ H R := q
theorem k_rng2 {ta : TA} {R : It → Hp → Prop} (q : ta σ H fun vs H1 => ∃ i j : Int, vs = [.int i, .int j] ∧
  (-(2 ^ 62) ≤ i ∧ i < 2 ^ 62 ∧ -(2 ^ 62) ≤ j ∧ j < 2 ^ 62) ∧ R (Itr i (j - i).toNat) H1) : iRng2 ta σ H R := q
theorem k_ilist {tl : TE} {R : It → Hp → Prop} (q : tl σ H fun x H1 => ∃ a, x = .ref a ∧
  (∃ xs, SqL K H1 a xs) ∧ R (Itl K a) H1) : iList K tl σ H R := q
theorem k_itup {tl : TE} {R : It → Hp → Prop} (q : tl σ H fun x H1 => ∃ a, x = .ref a ∧
  (∃ xs, SqT K H1 a xs) ∧ R (Itt K a) H1) : iTup K tl σ H R := q
theorem forK_range {g : TG} {tb : TS} {n : Nat} (Pv : Nat → L2.St → Hp → Prop) (h0 : Pv 0 σ H)
    (hs : ∀ (i : Nat) σ' H', i < n → Pv i σ' H' → g (.int (i : Int)) σ' H' fun σ2 H2 => tb { D with nx := Pv (i + 1), ct := Pv (i + 1), bk := D.nx } σ2 H2)
    (hd : ∀ σ' H', Pv n σ' H' → D.nx σ' H') : forK g tb D σ (Itr 0 n) H := by
  refine for_range (lo := 0) (n := n) Pv h0 (fun i σ' H' hi p => ?_) hd
  have e0 : (0 : Int) + (i : Int) = (i : Int) := Int.zero_add _
  rw [e0]
  exact hs i σ' H' hi p
theorem forK_list {g : TG} {tb : TS} {a : Addr} {xs : List V} (Pv : Nat → L2.St → Hp → Prop) (h0 : Pv 0 σ H)
    (hl : ∀ i σ' H', i ≤ xs.length → Pv i σ' H' → SqL K H' a xs)
    (hs : ∀ i x σ' H', xs[i]? = some x → Pv i σ' H' → g x σ' H' fun σ2 H2 => tb { D with nx := Pv (i + 1), ct := Pv (i + 1), bk := D.nx } σ2 H2)
    (hd : ∀ σ' H', Pv xs.length σ' H' → D.nx σ' H') : forK g tb D σ (Itl K a) H := for_list Pv h0 hl hs hd
end
section
variable {σ : L2.St} {H : Hp} {Q : VK} {ta te : TE} {K : PySem.W.Frag}
theorem k_bm {T : String} {r : V → List V → Hp → VK → Prop} {t : TA} (q : ta σ H fun x H1 => tyV K T x H1 ∧
  t σ H1 fun xs H2 => r x xs H2 Q) : tBM K T r ta t σ H Q := q
theorem k_bm0 {T : String} {r : V → List V → Hp → VK → Prop} (q : ta σ H fun x H1 => tyV K T x H1 ∧ r x [] H1 Q) : tBM0 K T r ta σ H Q := q
theorem k_tyl {l : Addr} {xs : List V} {P : Prop} (h : SqL K H l xs) (q : P) : tyV K "list" (.ref l) H ∧ P := ⟨Or.inl ⟨rfl, xs, h⟩, q⟩
theorem k_rApp {l : Addr} {xs : List V} {y : V} (h : H l = some (.lst xs)) (z : xs.length < sizeLine) (q : Q .non (upd H l (.lst (xs ++ [y])))) : rAppend (.ref l) [y] H Q := ⟨l, xs, y, rfl, rfl, h, z, q⟩
theorem k_sizeL {α : Type} {xs : List α} {f : α → V} (h : xs.length ≤ 100000) : (xs.map f).length < sizeLine := by
  rw [List.length_map]; exact Nat.lt_of_le_of_lt h (by decide)
end
section
variable {σ : L2.St} {H : Hp} {t u : TS} {D : Ends}
theorem k_cut (Mid : L2.St → Hp → Prop) (h : t { D with nx := Mid } σ H) (r : ∀ σ' H', Mid σ' H' → u D σ' H') : Evl.tCut t u D σ H := ⟨Mid, h, r⟩
end
theorem tr_step {H H' : Hp} {a : Addr} {o : HO} (e : Ex H H') (h : H a = some o) : H' a = some o := e a o h
section
variable {X : Cx} {CX : CXT} {k : Nat} {f C : Addr} {fd : FuncData} {ps : List Str} {sp : Sp} {E : XK}
/-- x op y, both instances of the class at C -/
def rMine (C : Addr) (sp : Sp) (E : XK) : R2 := fun x y H Q => ∃ a dx fs b dy gs,
  x = V.ref a ∧ y = V.ref b ∧ H a = some (HO.ins C dx fs) ∧ H b = some (HO.ins C dy gs) ∧ sp [x, y] H Q E
def rMine1 (C : Addr) (sp : Sp) (E : XK) : V → Hp → VK → Prop := fun x H Q => ∃ a dx fs,
  x = V.ref a ∧ H a = some (HO.ins C dx fs) ∧ sp [x] H Q E
theorem back_of {z : V} {u : Value} {s' : Shared} {R : Value → Shared → Prop} (r : RelV z u) (q : R u s') : PySem.W.CmpBack R u s' := by
  cases z with
  | non => cases r; exact q
  | bl b => cases r; exact q
  | int i => obtain ⟨t, rfl⟩ := r; exact q
  | str i => obtain ⟨t, rfl⟩ := r; exact q
  | byt i => obtain ⟨t, rfl⟩ := r; exact q
  | flt i => obtain ⟨t, rfl⟩ := r; exact q
  | ref a => cases r; exact q
  | ty n => cases r; exact q
theorem op_mine {op : Operator} (hc : PySem.W.selfFirst X.K C = true) (hm : Meth X.K C (PySem.dunder op.info.2) f) (F : FnOk X.prog X.w X.K X.mg X.base CX k f fd ps sp) (hr : Room k X.A) (hb : Binds X.K fd ps []) (hx : Passes CX X E) :
    OpR X (binaryOp op) (rMine C sp E) := by
  rintro pins s σ H x y v u Q I rx ry ⟨a, dx, fs, b, dy, gs, rfl, rfl, ha, hb', q⟩
  cases (show v = Value.ref a from rx)
  cases (show u = Value.ref b from ry)
  obtain ⟨mA, O, _⟩ := ins_get I.hok ha
  obtain ⟨mB, O', _⟩ := ins_get I.hok hb'
  obtain ⟨od, J, _⟩ := O.look
  obtain ⟨od', J', _⟩ := O'.look
  obtain ⟨m, hF⟩ := I.fr
  refine PySem.W.binop_K hF I.ok.mod.kin J J'.type hc hm.at_ hm.fn ?_
  refine wpAny_mono (run_fn (us := [.ref a, .ref b]) (vs := [.ref a, .ref b]) (dvs := []) (ds := []) F hr hb .nil hx I (.cons rfl (.cons rfl .nil)) q) ?_ (fun _ _ z => z)
  rintro u' s' ⟨z, H', I', rz, qz⟩
  exact back_of (R := EP X pins σ Q) rz ⟨z, H', I', rz, qz⟩
theorem un_mine (hm : Meth X.K C "__neg__" f) (F : FnOk X.prog X.w X.K X.mg X.base CX k f fd ps sp) (hr : Room k X.A) (hb : Binds X.K fd ps []) (hx : Passes CX X E) :
    UnR X (unaryOp .USub) (rMine1 C sp E) := by
  rintro pins s σ H x v Q I rx ⟨a, dx, fs, rfl, ha, q⟩
  cases (show v = Value.ref a from rx)
  obtain ⟨mA, O, _⟩ := ins_get I.hok ha
  obtain ⟨od, J, _⟩ := O.look
  obtain ⟨m, hF⟩ := I.fr
  refine PySem.W.ksp_neg hF I.ok.mod.kin J hm.at_ hm.fn ?_
  exact run_fn (us := [.ref a]) (vs := [.ref a]) (dvs := []) (ds := []) F hr hb .nil hx I (.cons rfl .nil) q
end
/-! small facts -/
theorem get_int {ns : List Int} {i : Nat} {y : V} (h : (ns.map V.int)[i]? = some y) : ∃ z, ns[i]? = some z ∧ y = .int z := by
  rw [List.getElem?_map] at h
  cases e : ns[i]? with
  | none => rw [e] at h; cases h
  | some z => rw [e] at h; exact ⟨z, rfl, (Option.some.inj h).symm⟩
theorem at_int {ns : List Int} {k : Int} (h0 : 0 ≤ k) (h1 : k < ns.length) : ∃ z, ns[k.toNat]? = some z ∧ atI (ns.map V.int) k = some (.int z) := by
  have hk : k.toNat < ns.length := by omega
  refine ⟨ns[k.toNat], by simp [hk], ?_⟩
  have e : ((k.toNat : Nat) : Int) = k := by omega
  have z : atI (ns.map V.int) ((k.toNat : Nat) : Int) = some (V.int ns[k.toNat]) := atI_nat (by simp [hk])
  rw [e] at z
  exact z
theorem ex_of {H H' : Hp} (e : H' = H) : Ex H H' := by rw [e]; exact Evl.Ex.refl H
theorem ex_upd {H : Hp} {p : Addr} {o : HO} (h : H p = none) : Ex H (upd H p o) := Evl.Ex.new h
theorem two_le : ∀ a b : V, [a, b].length ≤ sizeLine := fun _ _ => by show 2 ≤ sizeLine; decide
end Mine
namespace Mine
open PySem PySem.Spec PyProof.Rows L2
open PySem.W (Frag)
/-! the facts of the head: a list of tests of the written part, and the defs -/
def obsM (fs : List (Frag → Bool)) (fn : List He5.DefA) (K : Frag) : He.AlD :=
  ((fs.all fun f => f K) && fn.all fun d => d.ok K, fn.map fun d => He5.fnA K (d.at_ K))
def SaysM (fs : List (Frag → Bool)) (fn : List He5.DefA) (K : Frag) : Prop := obsM fs fn K = He5.valA fn
def obsMG (n : Nat) (fs : List (Frag → Bool)) (fn : List He5.DefA) (g : Addr → Option Obj) : He.AlD := obsM fs fn (He.frG g (He5.asA g n))
def hookM (n : Nat) (fs : List (Frag → Bool)) (fn : List He5.DefA) : PySem.W.Hook where
  α := He.AlD
  obs s := obsMG n fs fn s.heap.get?
  val _ := He5.valA fn
  says _ h := ∃ K : Frag, K.In h ∧ SaysM fs fn K
  of _ _ e := ⟨_, He.frG_in, e⟩
  keeps _ _ _ := fun ⟨K, hK, c⟩ k => ⟨K, PySem.W.Frag.In.keeps hK k, c⟩
theorem obsMG_eq {n : Nat} {fs : List (Frag → Bool)} {fn : List He5.DefA} {g : Addr → Option Obj} {s : Shared} (h : ∀ a, g a = s.heap.get? a) :
    obsMG n fs fn g = (hookM n fs fn).obs s := by
  have e : g = s.heap.get? := funext h
  subst e
  rfl
theorem SaysM.fact {fs : List (Frag → Bool)} {fn : List He5.DefA} {K : Frag} (c : SaysM fs fn K) (i : Nat) {f : Frag → Bool} (h : fs[i]? = some f) : f K = true := by
  have c1 : ((fs.all fun f => f K) && fn.all fun d => d.ok K) = true := congrArg (fun z : He.AlD => z.1) c
  exact List.all_eq_true.mp (Bool.and_eq_true_iff.mp c1).1 f (List.mem_of_getElem? h)
theorem SaysM.dfn {fs : List (Frag → Bool)} {fn : List He5.DefA} {K : Frag} (c : SaysM fs fn K) (i : Nat) {d : He5.DefA} (h : fn[i]? = some d) :
    ∃ fd, FunD K d.name d.qual d.params d.body d.scope (d.dvs K) (d.kws K) (d.at_ K) fd := by
  have c1 : ((fs.all fun f => f K) && fn.all fun d => d.ok K) = true := congrArg (fun z : He.AlD => z.1) c
  have c2 := List.all_eq_true.mp (Bool.and_eq_true_iff.mp c1).2 d (List.mem_of_getElem? h)
  have e : (fn.map fun d => He5.fnA K (d.at_ K)) = fn.map He5.DefA.val := congrArg (fun z : He.AlD => z.2) c
  have e2 := congrArg (fun l => l[i]?) e
  simp only [List.getElem?_map, h, Option.map_some, Option.some.injEq] at e2
  exact He5.DefA.funD e2 c2
end Mine
namespace Mine
open PySem PySem.Spec PyProof.Rows L2
theorem fd_same {K : PySem.W.Frag} {x q x' q' : Str} {a a' : Arguments} {b b' : List Stmt} {c c' : Scope} {d d' : List V} {k k' : List (Str × V)} {f : Addr} {fd fd' : FuncData} (F : FunD K x q a b c d k f fd) (G : FunD K x' q' a' b' c' d' k' f fd') : fd = fd' := by
  obtain ⟨_, _, _, _, _, _, _, _, _, _, _, l, _⟩ := F.ex
  obtain ⟨_, _, _, _, _, _, _, _, _, _, _, l', _⟩ := G.ex
  have e := Option.some.inj (l.symm.trans l')
  injection e with _ _ e
  injection e
end Mine
namespace Mine
open PySem PySem.Spec PyProof.Rows L2
def propG (K : PySem.W.Frag) (C f : Str) : Addr := match PySem.W.recIn K (He.ma K (He.ga K C) f) "property" with
  | some (.ref g :: _) => g
  | _ => 0
def propB (K : PySem.W.Frag) (C f : Str) : Bool :=
  He.eqO (PySem.W.findIn K (.ref (He.ga K C)) f) (some (some (.ref (He.ma K (He.ga K C) f)))) &&
  (He.eqO (PySem.W.specialIn K (.ref (He.ma K (He.ga K C) f)) "__get__") (some (some (.builtin "property.__get__"))) &&
  (decide (PySem.W.takesIn K (.ref (He.ma K (He.ga K C) f)) = some true) &&
  match PySem.W.recIn K (He.ma K (He.ga K C) f) "property" with
  | some (.ref _ :: _) => true
  | _ => false))
theorem prop_ok {K : PySem.W.Frag} {C f : Str} (h : propB K C f = true) : PropOf K (He.ga K C) f (He.ma K (He.ga K C) f) (propG K C f) := by
  unfold propB at h
  rw [Bool.and_eq_true, Bool.and_eq_true, Bool.and_eq_true] at h
  obtain ⟨h1, h2, h3, h4⟩ := h
  refine ⟨He.eqO_ok h1, He.eqO_ok h2, of_decide_eq_true h3, ?_⟩
  unfold propG
  split at h4
  · rename_i g rest e
    rw [e]; exact ⟨_, rfl⟩
  · cases h4
def inscB (K : PySem.W.Frag) (C : Str) : Bool :=
  (He.Fa.cls C).ok K && (He.eqO (PySem.W.findIn K (.ref (He.ga K C)) "__class__") (some (some (.builtin "object.__class__"))) &&
  (He.eqO (PySem.W.specialIn K (.builtin "object.__class__") "__get__") (some (some (.builtin "getset_descriptor.__get__"))) &&
  (decide (PySem.W.takesIn K (.builtin "object.__class__") = some true) && (decide (PySem.W.mroIn K (He.ga K C) (.type "object") = some true) &&
  decide (PySem.W.kitOne K (.ref (He.ga K C)) (.ref (He.ga K C)) = some true)))))
theorem insc_ok {K : PySem.W.Frag} {C : Str} (h : inscB K C = true) : C8.InsC K (He.ga K C) := by
  unfold inscB at h
  rw [Bool.and_eq_true, Bool.and_eq_true, Bool.and_eq_true, Bool.and_eq_true, Bool.and_eq_true] at h
  obtain ⟨h1, h2, h3, h4, h5, h6⟩ := h
  exact ⟨He.cls_ok h1, He.eqO_ok h2, He.eqO_ok h3, of_decide_eq_true h4, of_decide_eq_true h5, of_decide_eq_true h6⟩
end Mine
namespace Mine
open PySem PySem.Spec PyProof.Rows L2
open PySem.W (Frag)
/-! dicts, tuples and texts of the program's head -/
/-- d[k], d a dict of the head with texts as keys -/
def rKD (K : Frag) (d : Addr) : R2 := fun x y H Q => ∃ z u0 v0, x = .ref d ∧ y = .str z ∧ PySem.W.nsIn K d z = some (some u0) ∧ RelV v0 u0 ∧ Q v0 H
theorem ix_kd {X : Cx} {d : Addr} (D : ∃ es n, KDict X.K X.w d es n) : IxR X (rKD X.K d) := by
  obtain ⟨es, n, D⟩ := D
  rintro value slice pins s σ H x y v u Q I rx ry ⟨z, u0, v0, rfl, rfl, h1, h2, q⟩ hs
  have e : v = .ref d := rx
  subst e
  exact tail_any (T := "dict") (kd_type D I) F.slot_dict_getitem.lookup (op_item_kd D pins s σ H (.ref d) (.str z) (.ref d) u Q I rx ry ⟨z, u0, v0, rfl, rfl, h1, h2, q⟩) hs
/-- the items of a tuple of the head -/
def valsL : List V → List Value → Bool
  | [], [] => true
  | x :: xs, u :: us => He.relB x u && valsL xs us
  | _, _ => false
theorem valsL_ok : ∀ {xs : List V} {us : List Value}, valsL xs us = true → Vals xs us
  | [], [], _ => .nil
  | x :: xs, u :: us, h => by
    have h' : (He.relB x u && valsL xs us) = true := h
    rw [Bool.and_eq_true] at h'
    exact .cons (He.relB_ok h'.1) (valsL_ok h'.2)
  | [], _ :: _, h => by cases h
  | _ :: _, [], h => by cases h
def tupB (K : Frag) (a : Addr) (xs : List V) : Bool := match K.lookup a with
  | some ⟨cls, _, .seq its _, _⟩ => decide (cls = .type "tuple") && (decide (its.size ≤ 1000) && valsL xs its.toList)
  | _ => false
theorem tupB_ok {K : Frag} {a : Addr} {xs : List V} (h : tupB K a xs = true) (H : Hp) : SqT K H a xs := by
  unfold tupB at h
  split at h
  · rename_i cls dd its n sl e
    rw [Bool.and_eq_true, Bool.and_eq_true] at h
    exact Or.inr ⟨_, its, n, e, of_decide_eq_true h.1, rfl, Nat.le_trans (of_decide_eq_true h.2.1) (by decide), valsL_ok h.2.2⟩
  · cases h
/-- the tuple behind a key of a dict of the head -/
def kdA (K : Frag) (d k : Str) : Addr := match PySem.W.nsIn K (He.ga K d) k with
  | some (some (.ref a)) => a
  | _ => 0
def kdB (K : Frag) (d k : Str) (xs : List V) : Bool := match PySem.W.nsIn K (He.ga K d) k with
  | some (some (.ref a)) => tupB K a xs
  | _ => false
theorem kdB_ok {K : Frag} {d k : Str} {xs : List V} (h : kdB K d k xs = true) : PySem.W.nsIn K (He.ga K d) k = some (some (.ref (kdA K d k))) ∧ ∀ H, SqT K H (kdA K d k) xs := by
  unfold kdB at h
  unfold kdA
  split at h
  · rename_i a e
    rw [e]
    exact ⟨rfl, tupB_ok h⟩
  · cases h
theorem k_kd {K : Frag} {d k : Str} {xs : List V} {H : Hp} {Q : VK} (h : PySem.W.nsIn K (He.ga K d) k = some (some (.ref (kdA K d k))) ∧ ∀ H, SqT K H (kdA K d k) xs) (q : Q (.ref (kdA K d k)) H) : rKD K (He.ga K d) (.ref (He.ga K d)) (.str k) H Q :=
  ⟨k, _, .ref _, rfl, rfl, h.1, rfl, q⟩
theorem cst_okS {X : Cx} {x : Str} {z : Str} (h : ∃ t, X.mg x = some (.str z t)) : ∃ u, X.mg x = some u ∧ RelV (.str z) u :=
  let ⟨t, h⟩ := h; ⟨_, h, t, rfl⟩
/-! the head's facts with dicts -/
abbrev AlM : Type := He.AlD × List (Option (List (Option (Str × Int))))
def obsMT (fs : List (Frag → Bool)) (fn : List He5.DefA) (ts : List He.Tab) (K : Frag) : AlM := (obsM fs fn K, ts.map fun t => He.dicW K (t.1 K))
def valMT (fn : List He5.DefA) (ts : List He.Tab) (w : World) : AlM := (He5.valA fn, ts.map fun t => some (He.keysIn w.params t.2))
def SaysMT (fs : List (Frag → Bool)) (fn : List He5.DefA) (ts : List He.Tab) (w : World) (K : Frag) : Prop := obsMT fs fn ts K = valMT fn ts w
def obsMTG (n : Nat) (fs : List (Frag → Bool)) (fn : List He5.DefA) (ts : List He.Tab) (g : Addr → Option Obj) : AlM := obsMT fs fn ts (He.frG g (He5.asA g n))
@[reducible] def hookMT (n : Nat) (fs : List (Frag → Bool)) (fn : List He5.DefA) (ts : List He.Tab) : PySem.W.Hook where
  α := AlM
  obs s := obsMTG n fs fn ts s.heap.get?
  val w := valMT fn ts w
  says w h := ∃ K : Frag, K.In h ∧ SaysMT fs fn ts w K
  of _ _ e := ⟨_, He.frG_in, e⟩
  keeps _ _ _ := fun ⟨K, hK, c⟩ k => ⟨K, PySem.W.Frag.In.keeps hK k, c⟩
theorem obsMTG_eq {n : Nat} {fs : List (Frag → Bool)} {fn : List He5.DefA} {ts : List He.Tab} {g : Addr → Option Obj} {s : Shared} (h : ∀ a, g a = s.heap.get? a) :
    obsMTG n fs fn ts g = (hookMT n fs fn ts).obs s := by
  have e : g = s.heap.get? := funext h
  subst e
  rfl
theorem SaysMT.m {fs : List (Frag → Bool)} {fn : List He5.DefA} {ts : List He.Tab} {w : World} {K : Frag} (c : SaysMT fs fn ts w K) : SaysM fs fn K := congrArg (fun z : AlM => z.1) c
theorem SaysMT.tab {fs : List (Frag → Bool)} {fn : List He5.DefA} {ts : List He.Tab} {w : World} {K : Frag} (c : SaysMT fs fn ts w K) (i : Nat) {t : He.Tab} (h : ts[i]? = some t) : ∃ es n, KDict K w (t.1 K) es n := by
  have e := congrArg (fun z : AlM => z.2[i]?) c
  have e2 : (ts.map fun t => He.dicW K (t.1 K))[i]? = (ts.map fun t => some (He.keysIn w.params t.2))[i]? := e
  simp only [List.getElem?_map, h, Option.map_some, Option.some.injEq] at e2
  exact He.dicW_ok e2
end Mine
namespace Mine
open PySem PySem.Spec PyProof.Rows L2
open PySem.W (Frag)
/-! the hook at a written list of addresses: no walk over the heap -/
def obsLG (as : List Addr) (fs : List (Frag → Bool)) (fn : List He5.DefA) (g : Addr → Option Obj) : He.AlD := obsM fs fn (He.frG g as)
def hookL (as : List Addr) (fs : List (Frag → Bool)) (fn : List He5.DefA) : PySem.W.Hook where
  α := He.AlD
  obs s := obsLG as fs fn s.heap.get?
  val _ := He5.valA fn
  says _ h := ∃ K : Frag, K.In h ∧ SaysM fs fn K
  of _ _ e := ⟨_, He.frG_in, e⟩
  keeps _ _ _ := fun ⟨K, hK, c⟩ k => ⟨K, PySem.W.Frag.In.keeps hK k, c⟩
theorem obsLG_eq {as : List Addr} {fs : List (Frag → Bool)} {fn : List He5.DefA} {g : Addr → Option Obj} {s : Shared} (h : ∀ a, g a = s.heap.get? a) :
    obsLG as fs fn g = (hookL as fs fn).obs s := by
  have e : g = s.heap.get? := funext h
  subst e
  rfl
def obsLTG (as : List Addr) (fs : List (Frag → Bool)) (fn : List He5.DefA) (ts : List He.Tab) (g : Addr → Option Obj) : AlM := obsMT fs fn ts (He.frG g as)
@[reducible] def hookLT (as : List Addr) (fs : List (Frag → Bool)) (fn : List He5.DefA) (ts : List He.Tab) : PySem.W.Hook where
  α := AlM
  obs s := obsLTG as fs fn ts s.heap.get?
  val w := valMT fn ts w
  says w h := ∃ K : Frag, K.In h ∧ SaysMT fs fn ts w K
  of _ _ e := ⟨_, He.frG_in, e⟩
  keeps _ _ _ := fun ⟨K, hK, c⟩ k => ⟨K, PySem.W.Frag.In.keeps hK k, c⟩
theorem obsLTG_eq {as : List Addr} {fs : List (Frag → Bool)} {fn : List He5.DefA} {ts : List He.Tab} {g : Addr → Option Obj} {s : Shared} (h : ∀ a, g a = s.heap.get? a) :
    obsLTG as fs fn ts g = (hookLT as fs fn ts).obs s := by
  have e : g = s.heap.get? := funext h
  subst e
  rfl
end Mine
namespace Mine
open PySem PySem.Spec PyProof.Rows L2
open Evl (Ex)
/-! a part that is read under a condition on the error -/
def tWhen (p : Prop) (t : TS) : TS := fun D σ H => p ∧ t D σ H
theorem pss_when {X : Cx} {b : List Stmt} {p : Prop} {t : TS} (h : p → PSs X b t) : PSs X b (tWhen p t) :=
  ⟨fun pins s σ H D I q => (h q.1).run pins s σ H D I q.2⟩
theorem zc_at {cls c : Value} {d : Option Addr} {oe : Obj} (h : cls = c ∧ d = none) (z : Zc cls d oe) : Zc c none oe := by
  obtain ⟨rfl, rfl⟩ := h
  exact z
/-- try: body except c as (slot i): suite -/
def tTryAs (K : PySem.W.Frag) (c : Value) (i : Nat) (tb : WX → TS) (ts : Addr → Value → Option Addr → TS) : TS := fun D σ H => tb (wAs K c i ts (fun _ _ _ _ => False) D) D σ H
theorem k_isE {K : PySem.W.Frag} {D a : Addr} {c : V} {cv : Value} {b : Bool} {H : Hp} {Q : VK} (h : PySem.W.kitOne K (.ref D) cv = some b) (hc : ∀ u, RelV c u → u = cv) (q : Q (.bl b) H) : rIsE K D a [.ref a, c] H Q :=
  ⟨c, cv, b, rfl, hc, h, q⟩
theorem rel_ref {c : Addr} : ∀ u, RelV (.ref c) u → u = .ref c := fun _ h => h
theorem rel_ty {n : String} : ∀ u, RelV (.ty n) u → u = .type n := fun _ h => h
/-- C(e, ..) where its __init__ may raise, at the slots -/
def tMakeS (C : Addr) (sp : Sp) (dvs : List V) (E : L2.St → XK) (t : TA) : TE := fun σ H Q => t σ H fun vs H1 => ∀ x dx, H1 x = none → H1 dx = none → dx ≠ x → sp (.ref x :: (vs ++ dvs)) (upd (upd H1 dx (.own x)) x (.ins C dx [])) (fun v H2 => v = .non ∧ Q (.ref x) H2) (E σ)
section
variable {X : Cx} {CX : CXT} {k : Nat} {f C : Addr} {fd : FuncData} {ps : List Str} {sp : Sp} {E : L2.St → XK} {dvs : List V} {ds : List Value} {x : Str} {p pos : Pos} {e : Expr} {es : List Expr} {t : TA}
theorem pe_makeS (M : Mk X.K C f) (F : FnOk X.prog X.w X.K X.mg X.base CX k f fd ps sp) (hr : Room (k + 1) X.A) (hg : Gl X x) (hm : X.mg x = some (.ref C)) (hb : Binds X.K fd ps ds) (hd : Vals dvs ds) (hx : ∀ σ, PassesAt CX X σ (E σ))
    (ha : PA X (e :: es) t) (hdb : (x == ("__debug__" : Str)) = false := by decide) (he : starEach (e :: es) X.env = (false, eval e X.env) :: starEach es X.env := by rfl) (hpl : (backTo pos (starEach es X.env)).any (·.1) = false := by rfl) :
    PE X (.Call (.Name x p) (e :: es) [] pos) (tMakeS C sp dvs E t) := by
  constructor
  intro pins s σ H Q I h
  refine wpAny_Call_Name_kw (ld_glob I hg hm ?_ hdb)
  refine PySem.W.callWith_K (h₀ := X.base) I.ok.mod.kin M.kp ?_ he hpl
  refine thn (ha.run pos pins s σ H _ I h) ?_
  rintro us s1 ⟨vs, H1, I1, r, q⟩
  refine ⟨I1.kIn, ?_⟩
  have q1 := q (s1.heap.objs.size + 1) s1.heap.objs.size (I1.hok.fresh (Nat.le_succ _)) (I1.hok.fresh (Nat.le_refl _)) (Nat.ne_of_lt (Nat.lt_succ_self _))
  have J := Inv.made (C := C) I1
  have rr : Vals (V.ref (s1.heap.objs.size + 1) :: (vs ++ dvs)) (Value.ref (s1.heap.objs.size + 1) :: (us ++ ds)) := .cons rfl (r.append hd)
  have hl : (Value.ref (s1.heap.objs.size + 1) :: us ++ ds).length = ps.length := by
    rw [← F.len _ _ _ _ q1]; exact rr.length.symm
  refine wpAny_call (make_map (f := f) I1.kIn M.makes M.init (beq_iff_eq.mp M.fn) (codeAny_mono (F.run _ X.stack _ _ ⟨Value.ref (s1.heap.objs.size + 1) :: us, []⟩ (Value.ref (s1.heap.objs.size + 1) :: (us ++ ds)) _ _ (E σ) (hr.make C us [])
    (J.env0.make C us []) (hb _ (Value.ref (s1.heap.objs.size + 1) :: us) J.kIn hl) rr q1) ?_))
  rintro (er | fl) s' hq
  · exact hx σ pins _ _ er s' J hq
  · cases fl with
    | ret u =>
      obtain ⟨v, H', I3, rv, ev, q3⟩ := J.after hq
      subst ev
      exact ⟨rv, ⟨V.ref (s1.heap.objs.size + 1), H', I3, rfl, q3⟩⟩
    | next => exact False.elim hq
    | brk => exact False.elim hq
    | cont => exact False.elim hq
end
open PySem.W (Frag)
def excCB (K : Frag) (C : Str) : Bool :=
  He.eqO (PySem.W.findIn K (.ref (He.ga K C)) "__getattribute__") (some (some (.builtin "BaseException.__getattribute__"))) &&
  (decide (PySem.W.findIn K (.ref (He.ga K C)) "__getattr__" = some none) &&
  (decide (PySem.W.subIn K (.ref (He.ga K C)) (.type "BaseException") = some true) &&
  (decide (PySem.W.hasDictIn K (He.ga K C) = true) &&
  (He.eqO (PySem.W.findIn K (.ref (He.ga K C)) "__class__") (some (some (.builtin "object.__class__"))) &&
  (He.eqO (PySem.W.specialIn K (.builtin "object.__class__") "__get__") (some (some (.builtin "getset_descriptor.__get__"))) &&
  (decide (PySem.W.takesIn K (.builtin "object.__class__") = some true) && decide (PySem.W.mroIn K (He.ga K C) (.type "object") = some true)))))))
theorem excC_ok {K : Frag} {C : Str} (h : excCB K C = true) : ExcC K (He.ga K C) := by
  unfold excCB at h
  rw [Bool.and_eq_true, Bool.and_eq_true, Bool.and_eq_true, Bool.and_eq_true, Bool.and_eq_true, Bool.and_eq_true, Bool.and_eq_true] at h
  obtain ⟨h1, h2, h3, h4, h5, h6, h7, h8⟩ := h
  exact ⟨He.eqO_ok h1, of_decide_eq_true h2, of_decide_eq_true h3, of_decide_eq_true h4, He.eqO_ok h5, He.eqO_ok h6, of_decide_eq_true h7, of_decide_eq_true h8⟩
/-- what the errors' classes say of BadValue -/
structure FBadValue (K : Frag) : Prop where
  ex : PySem.W.exmOne K (.ref (He.ga K "BadValue")) (.ref (He.ga K "PlayError")) = some true
  k1 : PySem.W.kitOne K (.ref (He.ga K "BadValue")) (.ref (He.ga K "BadText")) = some false
  k2 : PySem.W.kitOne K (.ref (He.ga K "BadValue")) (.ref (He.ga K "NoMove")) = some false
  k3 : PySem.W.kitOne K (.ref (He.ga K "BadValue")) (.ref (He.ga K "Unknown")) = some false
  k4 : PySem.W.kitOne K (.ref (He.ga K "BadValue")) (.ref (He.ga K "BadValue")) = some true
  k5 : PySem.W.kitOne K (.ref (He.ga K "BadValue")) (.type "ValueError") = some true
end Mine
namespace Mine
open PySem PySem.Spec PyProof.Rows L2
open Evl (Ex)
section
variable {σ : L2.St} {H : Hp} {Q : VK} {K : PySem.W.Frag} {D : Ends}
theorem k_tryAs {c : Value} {i : Nat} {tb : WX → TS} {ts : Addr → Value → Option Addr → TS} (q : tb (wAs K c i ts (fun _ _ _ _ => False) D) D σ H) : tTryAs K c i tb ts D σ H := q
theorem k_makeS {C : Addr} {sp : Sp} {dvs : List V} {E : L2.St → XK} {t : TA} (q : t σ H fun vs H1 => ∀ x dx, H1 x = none → H1 dx = none → dx ≠ x → sp (.ref x :: (vs ++ dvs)) (upd (upd H1 dx (.own x)) x (.ins C dx [])) (fun v H2 => v = .non ∧ Q (.ref x) H2) (E σ)) : tMakeS C sp dvs E t σ H Q := q
theorem k_callSD {sp : Sp} {dvs : List V} {E : L2.St → XK} {t : TA} (q : t σ H fun vs H1 => sp (vs ++ dvs) H1 Q (E σ)) : tCallSD sp dvs E t σ H Q := q
theorem k_when {p : Prop} {t : TS} (h : p) (q : t D σ H) : tWhen p t D σ H := ⟨h, q⟩
/-- the suite is reached -/
theorem k_wAs {cls : Value} {c : Value} {i : Nat} {d : Option Addr} {ts : Addr → Value → Option Addr → TS} {Wout : WX} (e : PySem.W.exmOne K cls c = some true)
    (q : ∀ a, H a = none → ts a cls d { nx := fun σ' H' => D.nx (σ'.set i none) H', rt := D.rt, bk := fun σ' H' => D.bk (σ'.set i none) H', ct := fun σ' H' => D.ct (σ'.set i none) H' } (σ.set i (some (.ref a))) H) : WE (wAs K c i ts Wout D) σ cls d H :=
  ⟨true, e, fun _ => q, fun z => Bool.noConfusion z⟩
theorem TyB.ex {H H' : Hp} {x : V} {T : String} (t : TyB K H x T) (e : Ex H H') : TyB K H' x T := by
  cases t
  case lst h => exact .lst (Evl.ex_l e h)
  case tup h => exact .tup (Evl.ex_t e h)
  case dK h => exact .dK (e _ _ h)
  all_goals constructor
end
/-! keywords -/
def gKA {α : Type} (us ds zs : List α) : List α := us ++ (zs ++ ds)
def gKB {α : Type} (us _ zs : List α) : List α := us ++ zs
def gKC {α : Type} (us _ zs : List α) : List α := us ++ zs.reverse
theorem vals_rev {vs : List V} {us : List Value} (r : Vals vs us) : Vals vs.reverse us.reverse := by
  induction r with
  | nil => exact .nil
  | cons h _ ih => rw [List.reverse_cons, List.reverse_cons]; exact ih.append (.cons h .nil)
theorem gKA_rel {vs ds zs : List V} {us its ws : List Value} (r : Vals vs us) (rd : Vals ds its) (rz : Vals zs ws) : Vals (gKA vs ds zs) (gKA us its ws) := r.append (rz.append rd)
theorem gKB_rel {vs ds zs : List V} {us its ws : List Value} (r : Vals vs us) (_ : Vals ds its) (rz : Vals zs ws) : Vals (gKB vs ds zs) (gKB us its ws) := r.append rz
theorem gKC_rel {vs ds zs : List V} {us its ws : List Value} (r : Vals vs us) (_ : Vals ds its) (rz : Vals zs ws) : Vals (gKC vs ds zs) (gKC us its ws) := r.append (vals_rev rz)
end Mine
namespace Mine
open PySem PySem.Spec PyProof.Rows L2
open PySem.W (Frag)
def bmB (K : Frag) (C m : Str) : Bool := (He.Fa.meth C m).ok K &&
  (He.eqO (PySem.W.specialIn K (.ref (He.ma K (He.ga K C) m)) "__get__") (some (some (.builtin "function.__get__"))) &&
  (decide (PySem.W.takesIn K (.ref (He.ma K (He.ga K C) m)) = some false) &&
  (decide (PySem.W.copiedNames.contains m = false) && PySem.W.fnIn K (He.ma K (He.ga K C) m))))
end Mine
namespace Mine.Hd
open PySem PySem.Spec PyProof.Rows L2
open Evl (Ex)
def top (i : Nat) : Stmt := PySem.Challenge.pw_sumsplay_k15_winning_moves_and_outcome.main.body.getD i (.Pass ⟨0, 0, 0, 0⟩)
abbrev s_Yard_d_init : Stmt := inClass (top 32) 0
abbrev ad_Yard_d_init (K : PySem.W.Frag) : Addr := He.ma K (He.ga K "Yard") "__init__"
abbrev s_Wins_d_init : Stmt := inClass (top 5) 0
abbrev ad_Wins_d_init (K : PySem.W.Frag) : Addr := He.ma K (He.ga K "Wins") "__init__"
abbrev s_Pairs_d_init : Stmt := inClass (top 7) 0
abbrev ad_Pairs_d_init (K : PySem.W.Frag) : Addr := He.ma K (He.ga K "Pairs") "__init__"
abbrev s_Yard_m_size : Stmt := inClass (top 32) 1
abbrev ad_Yard_m_size (K : PySem.W.Frag) : Addr := propG K "Yard" "size"
abbrev s_Yard_m_check : Stmt := inClass (top 32) 9
abbrev ad_Yard_m_check (K : PySem.W.Frag) : Addr := He.ma K (He.ga K "Yard") "check"
abbrev s_Yard_m_lefts : Stmt := inClass (top 32) 3
abbrev ad_Yard_m_lefts (K : PySem.W.Frag) : Addr := He.ma K (He.ga K "Yard") "lefts"
abbrev s_Yard_m_rights : Stmt := inClass (top 32) 4
abbrev ad_Yard_m_rights (K : PySem.W.Frag) : Addr := He.ma K (He.ga K "Yard") "rights"
abbrev s_Wins_m_catch_up : Stmt := inClass (top 5) 1
abbrev ad_Wins_m_catch_up (K : PySem.W.Frag) : Addr := He.ma K (He.ga K "Wins") "catch_up"
abbrev s_Pairs_m_catch_up : Stmt := inClass (top 7) 1
abbrev ad_Pairs_m_catch_up (K : PySem.W.Frag) : Addr := He.ma K (He.ga K "Pairs") "catch_up"
abbrev s_Ranks_d_init : Stmt := inClass (top 9) 0
abbrev ad_Ranks_d_init (K : PySem.W.Frag) : Addr := He.ma K (He.ga K "Ranks") "__init__"
abbrev s_is_whole : Stmt := top 15
abbrev ad_is_whole (K : PySem.W.Frag) : Addr := He.ga K "is_whole"
abbrev s_plain : Stmt := top 22
abbrev ad_plain (K : PySem.W.Frag) : Addr := He.ga K "_plain"
abbrev s_Dyadic_d_init : Stmt := inClass (top 19) 0
abbrev ad_Dyadic_d_init (K : PySem.W.Frag) : Addr := He.ma K (He.ga K "Dyadic") "__init__"
abbrev s_Dyads_d_init : Stmt := inClass (top 27) 0
abbrev ad_Dyads_d_init (K : PySem.W.Frag) : Addr := He.ma K (He.ga K "Dyads") "__init__"
abbrev s_SimpleSums_d_init : Stmt := inClass (top 30) 0
abbrev ad_SimpleSums_d_init (K : PySem.W.Frag) : Addr := He.ma K (He.ga K "SimpleSums") "__init__"
abbrev s_SimpleForms_d_init : Stmt := inClass (top 34) 0
abbrev ad_SimpleForms_d_init (K : PySem.W.Frag) : Addr := He.ma K (He.ga K "SimpleForms") "__init__"
abbrev s_Order_d_init : Stmt := inClass (top 36) 0
abbrev ad_Order_d_init (K : PySem.W.Frag) : Addr := He.ma K (He.ga K "Order") "__init__"
abbrev s_law_drawn : Stmt := top 42
abbrev ad_law_drawn (K : PySem.W.Frag) : Addr := He.ga K "_law_drawn"
abbrev s_law_digits : Stmt := top 39
abbrev ad_law_digits (K : PySem.W.Frag) : Addr := He.ga K "_law_digits"
abbrev s_law_cell : Stmt := top 38
abbrev ad_law_cell (K : PySem.W.Frag) : Addr := He.ga K "_law_cell"
abbrev s_law_put : Stmt := top 41
abbrev ad_law_put (K : PySem.W.Frag) : Addr := He.ga K "_law_put"
abbrev s_law_family : Stmt := top 43
abbrev ad_law_family (K : PySem.W.Frag) : Addr := He.ga K "_law_family"
abbrev s_law_count : Stmt := top 44
abbrev ad_law_count (K : PySem.W.Frag) : Addr := He.ga K "_law_count"
abbrev s_Yard_p_kept : Stmt := inClass (top 32) 11
abbrev ad_Yard_p_kept (K : PySem.W.Frag) : Addr := He.ma K (He.ga K "Yard") "_kept"
abbrev s_Yard_m_game : Stmt := inClass (top 32) 2
abbrev ad_Yard_m_game (K : PySem.W.Frag) : Addr := He.ma K (He.ga K "Yard") "game"
abbrev s_law_built : Stmt := top 45
abbrev ad_law_built (K : PySem.W.Frag) : Addr := He.ga K "_law_built"
abbrev s_law_wins : Stmt := top 48
abbrev ad_law_wins (K : PySem.W.Frag) : Addr := He.ga K "_law_wins"
abbrev s_Wins_m_can_win : Stmt := inClass (top 5) 2
abbrev ad_Wins_m_can_win (K : PySem.W.Frag) : Addr := He.ma K (He.ga K "Wins") "can_win"
abbrev s_Order_m_can_win : Stmt := inClass (top 36) 8
abbrev ad_Order_m_can_win (K : PySem.W.Frag) : Addr := He.ma K (He.ga K "Order") "can_win"
abbrev s_Order_m_outcome : Stmt := inClass (top 36) 10
abbrev ad_Order_m_outcome (K : PySem.W.Frag) : Addr := He.ma K (He.ga K "Order") "outcome"
abbrev s_law_outcome : Stmt := top 50
abbrev ad_law_outcome (K : PySem.W.Frag) : Addr := He.ga K "_law_outcome"
abbrev s_other_side : Stmt := top 3
abbrev ad_other_side (K : PySem.W.Frag) : Addr := He.ga K "other_side"
abbrev s_Yard_m_options : Stmt := inClass (top 32) 5
abbrev ad_Yard_m_options (K : PySem.W.Frag) : Addr := He.ma K (He.ga K "Yard") "options"
abbrev s_Order_m_winning : Stmt := inClass (top 36) 9
abbrev ad_Order_m_winning (K : PySem.W.Frag) : Addr := He.ma K (He.ga K "Order") "winning"
abbrev s_law_is_integer : Stmt := top 40
abbrev ad_law_is_integer (K : PySem.W.Frag) : Addr := He.ga K "_law_is_integer"
abbrev s_law_all_integers : Stmt := top 46
abbrev ad_law_all_integers (K : PySem.W.Frag) : Addr := He.ga K "_law_all_integers"
abbrev s_law_is_list : Stmt := top 47
abbrev ad_law_is_list (K : PySem.W.Frag) : Addr := He.ga K "_law_is_list"
abbrev s_law_moves : Stmt := top 49
abbrev ad_law_moves (K : PySem.W.Frag) : Addr := He.ga K "_law_moves"
abbrev s_law : Stmt := top 51
abbrev ad_law (K : PySem.W.Frag) : Addr := He.ga K "law"
def addrs : List PySem.Addr := ([3, 29, 65, 121, 170, 184, 197, 218, 318, 343, 398, 466, 568, 681, 772, 783, 790, 797, 802, 807, 814, 821, 826, 831, 838, 843, 848, 855, 862, 28, 64, 120, 169, 183, 196, 217, 317, 342, 397, 465] : List PySem.Addr) ++ ([567, 680, 771, 782, 789, 796, 801, 806, 813, 820, 825, 830, 837, 842, 847, 854, 861, 43, 48, 55, 83, 90, 139, 233, 369, 423, 484, 492, 499, 506, 513, 520, 548, 560, 586, 636, 699, 757, 762, 769] : List PySem.Addr) ++ ([42, 47, 54, 82, 89, 138, 232, 226, 368, 422, 483, 491, 498, 505, 512, 519, 547, 559, 585, 698, 756, 761, 768, 490] : List PySem.Addr)
def fs : List (PySem.W.Frag → Bool) := [fun K => (He.Fa.glo "BadValue").ok K,
  fun K => (He.Fa.glo "Dyadic").ok K,
  fun K => (He.Fa.glo "Dyads").ok K,
  fun K => (He.Fa.glo "Order").ok K,
  fun K => (He.Fa.glo "Pairs").ok K,
  fun K => (He.Fa.glo "Ranks").ok K,
  fun K => (He.Fa.glo "SimpleForms").ok K,
  fun K => (He.Fa.glo "SimpleSums").ok K,
  fun K => (He.Fa.glo "Wins").ok K,
  fun K => (He.Fa.glo "Yard").ok K,
  fun K => (He.Fa.glo "_law_all_integers").ok K,
  fun K => (He.Fa.glo "_law_built").ok K,
  fun K => (He.Fa.glo "_law_cell").ok K,
  fun K => (He.Fa.glo "_law_count").ok K,
  fun K => (He.Fa.glo "_law_digits").ok K,
  fun K => (He.Fa.glo "_law_drawn").ok K,
  fun K => (He.Fa.glo "_law_family").ok K,
  fun K => (He.Fa.glo "_law_is_integer").ok K,
  fun K => (He.Fa.glo "_law_is_list").ok K,
  fun K => (He.Fa.glo "_law_moves").ok K,
  fun K => (He.Fa.glo "_law_outcome").ok K,
  fun K => (He.Fa.glo "_law_put").ok K,
  fun K => (He.Fa.glo "_law_wins").ok K,
  fun K => (He.Fa.glo "_plain").ok K,
  fun K => (He.Fa.glo "is_whole").ok K,
  fun K => (He.Fa.glo "law").ok K,
  fun K => (He.Fa.glo "other_side").ok K,
  fun K => (He.Fa.free "any").ok K,
  fun K => (He.Fa.free "bool").ok K,
  fun K => (He.Fa.free "int").ok K,
  fun K => (He.Fa.free "isinstance").ok K,
  fun K => (He.Fa.free "len").ok K,
  fun K => (He.Fa.free "list").ok K,
  fun K => (He.Fa.free "max").ok K,
  fun K => (He.Fa.free "range").ok K,
  fun K => (He.Fa.free "set").ok K,
  fun K => (He.Fa.free "sorted").ok K,
  fun K => (He.Fa.free "str").ok K,
  fun K => (He.Fa.free "tuple").ok K,
  fun K => (He.Fa.free "type").ok K,
  fun K => (He.Fa.int "MOST_POWER" (40)).ok K,
  fun K => (He.Fa.int "MOST_TOP" (1000000000000)).ok K,
  fun K => (He.Fa.cls "Dyadic").ok K,
  fun K => (He.Fa.cls "Dyads").ok K,
  fun K => (He.Fa.cls "Order").ok K,
  fun K => (He.Fa.cls "Pairs").ok K,
  fun K => (He.Fa.cls "Ranks").ok K,
  fun K => (He.Fa.cls "SimpleForms").ok K,
  fun K => (He.Fa.cls "SimpleSums").ok K,
  fun K => (He.Fa.cls "Wins").ok K,
  fun K => (He.Fa.cls "Yard").ok K,
  fun K => bmB K "SimpleForms" "reduced",
  fun K => (He.Fa.exc "BadValue").ok K,
  fun K => (He.Fa.meth "Order" "can_win").ok K,
  fun K => (He.Fa.meth "Order" "outcome").ok K,
  fun K => (He.Fa.meth "Order" "winning").ok K,
  fun K => (He.Fa.meth "Pairs" "catch_up").ok K,
  fun K => (He.Fa.meth "Wins" "can_win").ok K,
  fun K => (He.Fa.meth "Wins" "catch_up").ok K,
  fun K => (He.Fa.meth "Yard" "_kept").ok K,
  fun K => (He.Fa.meth "Yard" "check").ok K,
  fun K => (He.Fa.meth "Yard" "game").ok K,
  fun K => (He.Fa.meth "Yard" "lefts").ok K,
  fun K => (He.Fa.meth "Yard" "options").ok K,
  fun K => (He.Fa.meth "Yard" "rights").ok K,
  fun K => (He.Fa.mkr "Dyadic").ok K,
  fun K => (He.Fa.mkr "Dyads").ok K,
  fun K => (He.Fa.mkr "Order").ok K,
  fun K => (He.Fa.mkr "Pairs").ok K,
  fun K => (He.Fa.mkr "Ranks").ok K,
  fun K => (He.Fa.mkr "SimpleForms").ok K,
  fun K => (He.Fa.mkr "SimpleSums").ok K,
  fun K => (He.Fa.mkr "Wins").ok K,
  fun K => (He.Fa.mkr "Yard").ok K,
  fun K => (He.Fa.noat "Dyadic" "_power").ok K,
  fun K => (He.Fa.noat "Dyadic" "_top").ok K,
  fun K => (He.Fa.noat "Dyads" "_forms").ok K,
  fun K => (He.Fa.noat "Dyads" "_numbers").ok K,
  fun K => (He.Fa.noat "Dyads" "_yard").ok K,
  fun K => (He.Fa.noat "Order" "_simple").ok K,
  fun K => (He.Fa.noat "Order" "_wins").ok K,
  fun K => (He.Fa.noat "Order" "_yard").ok K,
  fun K => (He.Fa.noat "Pairs" "_known").ok K,
  fun K => (He.Fa.noat "Pairs" "_lefts").ok K,
  fun K => (He.Fa.noat "Pairs" "_rights").ok K,
  fun K => (He.Fa.noat "Pairs" "_wins").ok K,
  fun K => (He.Fa.noat "Pairs" "_yard").ok K,
  fun K => (He.Fa.noat "Ranks" "_asked").ok K,
  fun K => (He.Fa.noat "Ranks" "_better").ok K,
  fun K => (He.Fa.noat "Ranks" "_bits").ok K,
  fun K => (He.Fa.noat "Ranks" "_forms").ok K,
  fun K => (He.Fa.noat "Ranks" "_pairs").ok K,
  fun K => (He.Fa.noat "SimpleForms" "_forms").ok K,
  fun K => (He.Fa.noat "SimpleForms" "_known_sums").ok K,
  fun K => (He.Fa.noat "SimpleForms" "_own").ok K,
  fun K => (He.Fa.noat "SimpleForms" "_own_forms").ok K,
  fun K => (He.Fa.noat "SimpleForms" "_pairs").ok K,
  fun K => (He.Fa.noat "SimpleForms" "_ranks").ok K,
  fun K => (He.Fa.noat "SimpleForms" "_sums").ok K,
  fun K => (He.Fa.noat "SimpleForms" "_yard").ok K,
  fun K => (He.Fa.noat "SimpleSums" "_dyads").ok K,
  fun K => (He.Fa.noat "SimpleSums" "_reduced").ok K,
  fun K => (He.Fa.noat "SimpleSums" "_sums").ok K,
  fun K => (He.Fa.noat "SimpleSums" "_yard").ok K,
  fun K => (He.Fa.noat "Wins" "_left").ok K,
  fun K => (He.Fa.noat "Wins" "_right").ok K,
  fun K => (He.Fa.noat "Wins" "_yard").ok K,
  fun K => (He.Fa.noat "Yard" "_heights").ok K,
  fun K => (He.Fa.noat "Yard" "_lefts").ok K,
  fun K => (He.Fa.noat "Yard" "_numbers").ok K,
  fun K => (He.Fa.noat "Yard" "_rights").ok K,
  fun K => (He.Fa.noat "Yard" "_turned").ok K,
  fun K => propB K "Yard" "size"]
def fn : List He5.DefA := [{ at_ := fun K => ad_Yard_d_init K, name := "__init__", qual := "Yard.__init__", params := defArgs s_Yard_d_init, body := defBody s_Yard_d_init, scope := defScope s_Yard_d_init, dfl := [] },
  { at_ := fun K => ad_Wins_d_init K, name := "__init__", qual := "Wins.__init__", params := defArgs s_Wins_d_init, body := defBody s_Wins_d_init, scope := defScope s_Wins_d_init, dfl := [] },
  { at_ := fun K => ad_Pairs_d_init K, name := "__init__", qual := "Pairs.__init__", params := defArgs s_Pairs_d_init, body := defBody s_Pairs_d_init, scope := defScope s_Pairs_d_init, dfl := [] },
  { at_ := fun K => ad_Yard_m_size K, name := "size", qual := "Yard.size", params := defArgs s_Yard_m_size, body := defBody s_Yard_m_size, scope := defScope s_Yard_m_size, dfl := [] },
  { at_ := fun K => ad_Yard_m_check K, name := "check", qual := "Yard.check", params := defArgs s_Yard_m_check, body := defBody s_Yard_m_check, scope := defScope s_Yard_m_check, dfl := [] },
  { at_ := fun K => ad_Yard_m_lefts K, name := "lefts", qual := "Yard.lefts", params := defArgs s_Yard_m_lefts, body := defBody s_Yard_m_lefts, scope := defScope s_Yard_m_lefts, dfl := [] },
  { at_ := fun K => ad_Yard_m_rights K, name := "rights", qual := "Yard.rights", params := defArgs s_Yard_m_rights, body := defBody s_Yard_m_rights, scope := defScope s_Yard_m_rights, dfl := [] },
  { at_ := fun K => ad_Wins_m_catch_up K, name := "catch_up", qual := "Wins.catch_up", params := defArgs s_Wins_m_catch_up, body := defBody s_Wins_m_catch_up, scope := defScope s_Wins_m_catch_up, dfl := [] },
  { at_ := fun K => ad_Pairs_m_catch_up K, name := "catch_up", qual := "Pairs.catch_up", params := defArgs s_Pairs_m_catch_up, body := defBody s_Pairs_m_catch_up, scope := defScope s_Pairs_m_catch_up, dfl := [] },
  { at_ := fun K => ad_Ranks_d_init K, name := "__init__", qual := "Ranks.__init__", params := defArgs s_Ranks_d_init, body := defBody s_Ranks_d_init, scope := defScope s_Ranks_d_init, dfl := [] },
  { at_ := fun K => ad_is_whole K, name := "is_whole", qual := "is_whole", params := defArgs s_is_whole, body := defBody s_is_whole, scope := defScope s_is_whole, dfl := [] },
  { at_ := fun K => ad_plain K, name := "_plain", qual := "_plain", params := defArgs s_plain, body := defBody s_plain, scope := defScope s_plain, dfl := [] },
  { at_ := fun K => ad_Dyadic_d_init K, name := "__init__", qual := "Dyadic.__init__", params := defArgs s_Dyadic_d_init, body := defBody s_Dyadic_d_init, scope := defScope s_Dyadic_d_init, dfl := [.int 0] },
  { at_ := fun K => ad_Dyads_d_init K, name := "__init__", qual := "Dyads.__init__", params := defArgs s_Dyads_d_init, body := defBody s_Dyads_d_init, scope := defScope s_Dyads_d_init, dfl := [] },
  { at_ := fun K => ad_SimpleSums_d_init K, name := "__init__", qual := "SimpleSums.__init__", params := defArgs s_SimpleSums_d_init, body := defBody s_SimpleSums_d_init, scope := defScope s_SimpleSums_d_init, dfl := [] },
  { at_ := fun K => ad_SimpleForms_d_init K, name := "__init__", qual := "SimpleForms.__init__", params := defArgs s_SimpleForms_d_init, body := defBody s_SimpleForms_d_init, scope := defScope s_SimpleForms_d_init, dfl := [] },
  { at_ := fun K => ad_Order_d_init K, name := "__init__", qual := "Order.__init__", params := defArgs s_Order_d_init, body := defBody s_Order_d_init, scope := defScope s_Order_d_init, dfl := [] },
  { at_ := fun K => ad_law_drawn K, name := "_law_drawn", qual := "_law_drawn", params := defArgs s_law_drawn, body := defBody s_law_drawn, scope := defScope s_law_drawn, dfl := [] },
  { at_ := fun K => ad_law_digits K, name := "_law_digits", qual := "_law_digits", params := defArgs s_law_digits, body := defBody s_law_digits, scope := defScope s_law_digits, dfl := [] },
  { at_ := fun K => ad_law_cell K, name := "_law_cell", qual := "_law_cell", params := defArgs s_law_cell, body := defBody s_law_cell, scope := defScope s_law_cell, dfl := [] },
  { at_ := fun K => ad_law_put K, name := "_law_put", qual := "_law_put", params := defArgs s_law_put, body := defBody s_law_put, scope := defScope s_law_put, dfl := [] },
  { at_ := fun K => ad_law_family K, name := "_law_family", qual := "_law_family", params := defArgs s_law_family, body := defBody s_law_family, scope := defScope s_law_family, dfl := [] },
  { at_ := fun K => ad_law_count K, name := "_law_count", qual := "_law_count", params := defArgs s_law_count, body := defBody s_law_count, scope := defScope s_law_count, dfl := [] },
  { at_ := fun K => ad_Yard_p_kept K, name := "_kept", qual := "Yard._kept", params := defArgs s_Yard_p_kept, body := defBody s_Yard_p_kept, scope := defScope s_Yard_p_kept, dfl := [] },
  { at_ := fun K => ad_Yard_m_game K, name := "game", qual := "Yard.game", params := defArgs s_Yard_m_game, body := defBody s_Yard_m_game, scope := defScope s_Yard_m_game, dfl := [] },
  { at_ := fun K => ad_law_built K, name := "_law_built", qual := "_law_built", params := defArgs s_law_built, body := defBody s_law_built, scope := defScope s_law_built, dfl := [] },
  { at_ := fun K => ad_law_wins K, name := "_law_wins", qual := "_law_wins", params := defArgs s_law_wins, body := defBody s_law_wins, scope := defScope s_law_wins, dfl := [] },
  { at_ := fun K => ad_Wins_m_can_win K, name := "can_win", qual := "Wins.can_win", params := defArgs s_Wins_m_can_win, body := defBody s_Wins_m_can_win, scope := defScope s_Wins_m_can_win, dfl := [] },
  { at_ := fun K => ad_Order_m_can_win K, name := "can_win", qual := "Order.can_win", params := defArgs s_Order_m_can_win, body := defBody s_Order_m_can_win, scope := defScope s_Order_m_can_win, dfl := [] },
  { at_ := fun K => ad_Order_m_outcome K, name := "outcome", qual := "Order.outcome", params := defArgs s_Order_m_outcome, body := defBody s_Order_m_outcome, scope := defScope s_Order_m_outcome, dfl := [] },
  { at_ := fun K => ad_law_outcome K, name := "_law_outcome", qual := "_law_outcome", params := defArgs s_law_outcome, body := defBody s_law_outcome, scope := defScope s_law_outcome, dfl := [] },
  { at_ := fun K => ad_other_side K, name := "other_side", qual := "other_side", params := defArgs s_other_side, body := defBody s_other_side, scope := defScope s_other_side, dfl := [] },
  { at_ := fun K => ad_Yard_m_options K, name := "options", qual := "Yard.options", params := defArgs s_Yard_m_options, body := defBody s_Yard_m_options, scope := defScope s_Yard_m_options, dfl := [] },
  { at_ := fun K => ad_Order_m_winning K, name := "winning", qual := "Order.winning", params := defArgs s_Order_m_winning, body := defBody s_Order_m_winning, scope := defScope s_Order_m_winning, dfl := [] },
  { at_ := fun K => ad_law_is_integer K, name := "_law_is_integer", qual := "_law_is_integer", params := defArgs s_law_is_integer, body := defBody s_law_is_integer, scope := defScope s_law_is_integer, dfl := [] },
  { at_ := fun K => ad_law_all_integers K, name := "_law_all_integers", qual := "_law_all_integers", params := defArgs s_law_all_integers, body := defBody s_law_all_integers, scope := defScope s_law_all_integers, dfl := [] },
  { at_ := fun K => ad_law_is_list K, name := "_law_is_list", qual := "_law_is_list", params := defArgs s_law_is_list, body := defBody s_law_is_list, scope := defScope s_law_is_list, dfl := [] },
  { at_ := fun K => ad_law_moves K, name := "_law_moves", qual := "_law_moves", params := defArgs s_law_moves, body := defBody s_law_moves, scope := defScope s_law_moves, dfl := [] },
  { at_ := fun K => ad_law K, name := "law", qual := "law", params := defArgs s_law, body := defBody s_law, scope := defScope s_law, dfl := [] }]
def loose : List PySem.Str := (["_wall", "SIDES", "other_side", "Wins", "Pairs", "Ranks", "PlayError", "BadValue", "Unknown", "is_whole", "MOST_TOP", "MOST_POWER", "Dyadic", "simplest_between", "_simplest_above", "_plain", "exact", "work_out", "Dyads", "_neighbours", "SimpleSums", "Yard", "SimpleForms", "Order", "_law_cell", "_law_digits", "_law_is_integer", "_law_put", "_law_drawn", "_law_family"] : List PySem.Str) ++ (["_law_count", "_law_built", "_law_all_integers", "_law_is_list", "_law_wins", "_law_moves", "_law_outcome"] : List PySem.Str)
abbrev R : PySem.W.OpenRow := PySem.W.OpenLaw.row PySem.Challenge.rw_sumsplay_k15_winning_moves_and_outcome
abbrev hk : PySem.W.Hook := hookL addrs fs fn
def ob (s : PySem.W.SharedT) : He.AlD := obsLG addrs fs fn (HandSHeadRun.getT s)
theorem ob_eq (s : PySem.W.SharedT) : ob s = hk.obs s.abs := obsLG_eq (HandSHeadRun.getT_eq s)
theorem run (w : World) : HandSHeadRun.RunEq R (PySem.W.view R.prog [51]) hk ob 20000 loose w := by
  intro os
  kernel_rfl
end Mine.Hd
namespace Mine
open PySem L2
theorem cls_ty (T : String) : ClsV (.ty T) (.type T) := .ty T
theorem k_isiII {K : PySem.W.Frag} {H : Hp} {Q : VK} {i : Int} (q : Q (.bl true) H) : rIsi K [.int i, .ty "int"] H Q :=
  k_isi (cls_ty "int") (.base (.int i)) (kit_ty (b := "int") (r := true) (by decide +kernel)) q
theorem k_isiIB {K : PySem.W.Frag} {H : Hp} {Q : VK} {i : Int} (q : Q (.bl false) H) : rIsi K [.int i, .ty "bool"] H Q :=
  k_isi (cls_ty "bool") (.base (.int i)) (kit_ty (b := "bool") (r := false) (by decide +kernel)) q
theorem k_isiBB {K : PySem.W.Frag} {H : Hp} {Q : VK} {b : Bool} (q : Q (.bl true) H) : rIsi K [.bl b, .ty "bool"] H Q :=
  k_isi (cls_ty "bool") (.base (.bl b)) (kit_ty (b := "bool") (r := true) (by decide +kernel)) q
/-- the plain form of top / 2 ** power -/
def plainZ : Int → Nat → Int × Int
  | t, 0 => (t, 0)
  | t, n + 1 => if t % 2 = 0 then plainZ (t / 2) n else (t, ((n + 1 : Nat) : Int))
theorem plainZ_zero (t : Int) : plainZ t 0 = (t, 0) := rfl
theorem plainZ_even {t : Int} {n : Nat} (h : t % 2 = 0) : plainZ t (n + 1) = plainZ (t / 2) n := by
  show (if t % 2 = 0 then _ else _) = _
  rw [if_pos h]
theorem plainZ_odd {t : Int} {n : Nat} (h : ¬ t % 2 = 0) : plainZ t (n + 1) = (t, ((n + 1 : Nat) : Int)) := by
  show (if t % 2 = 0 then _ else _) = _
  rw [if_neg h]
theorem plainZ_le : ∀ (t : Int) (n : Nat), 0 ≤ (plainZ t n).2 ∧ (plainZ t n).2 ≤ n
  | t, 0 => by simp [plainZ]
  | t, n + 1 => by
    have ih := plainZ_le (t / 2) n
    by_cases h : t % 2 = 0
    · rw [plainZ_even h]; omega
    · rw [plainZ_odd h]; simp only; omega
/-- the plain form, in words: an even top stands with power 0 alone -/
theorem plainZ_plain : ∀ (t : Int) (n : Nat), (plainZ t n).2 = 0 ∨ ¬ (plainZ t n).1 % 2 = 0
  | t, 0 => Or.inl rfl
  | t, n + 1 => by
    by_cases h : t % 2 = 0
    · rw [plainZ_even h]; exact plainZ_plain _ _
    · rw [plainZ_odd h]; exact Or.inr h
/-- the value: t * 2 ^ p = top * 2 ^ n -/
theorem plainZ_val : ∀ (t : Int) (n : Nat), (plainZ t n).1 * 2 ^ n = t * 2 ^ (plainZ t n).2.toNat
  | t, 0 => by simp [plainZ]
  | t, n + 1 => by
    by_cases h : t % 2 = 0
    · rw [plainZ_even h]
      have ih := plainZ_val (t / 2) n
      have e : t = 2 * (t / 2) := by omega
      rw [Int.pow_succ, ← Int.mul_assoc, ih]
      generalize (plainZ (t / 2) n).2.toNat = k
      generalize t / 2 = u at e
      rw [e, Int.mul_comm (u * 2 ^ k) 2, Int.mul_assoc]
    · rw [plainZ_odd h]; rfl
/-- one plain form a number -/
theorem plain_one {t u : Int} {p q : Nat} (ht : p = 0 ∨ ¬ t % 2 = 0) (hu : q = 0 ∨ ¬ u % 2 = 0) (e : t * 2 ^ q = u * 2 ^ p) : t = u ∧ p = q := by
  have key : ∀ {t u : Int} {p q : Nat}, (q = 0 ∨ ¬ u % 2 = 0) → t * 2 ^ q = u * 2 ^ p → ¬ p < q := by
    intro t u p q hu e h
    have e1 : q = (q - p - 1) + 1 + p := by omega
    rw [e1, Int.pow_add, ← Int.mul_assoc] at e
    have e2 := Int.eq_of_mul_eq_mul_right (Int.ne_of_gt (Int.pow_pos (by decide))) e
    rw [Int.pow_succ, ← Int.mul_assoc] at e2
    omega
  have h1 := key hu e
  have h2 := key ht e.symm
  have h3 : p = q := by omega
  subst h3
  exact ⟨Int.eq_of_mul_eq_mul_right (Int.ne_of_gt (Int.pow_pos (by decide))) e, rfl⟩
/-- two numbers by any of their forms -/
theorem scale (a c : Int) (b d : Nat) : ∃ S : Int, 0 < S ∧ ∃ S' : Int, 0 < S' ∧ (plainZ a b).1 * 2 ^ (plainZ c d).2.toNat * S = a * 2 ^ d * S' ∧ (plainZ c d).1 * 2 ^ (plainZ a b).2.toNat * S = c * 2 ^ b * S' := by
  have v1 := plainZ_val a b
  have v2 := plainZ_val c d
  generalize plainZ a b = x at *
  generalize plainZ c d = y at *
  refine ⟨2 ^ b * 2 ^ d, Int.mul_pos (Int.pow_pos (by decide)) (Int.pow_pos (by decide)), 2 ^ x.2.toNat * 2 ^ y.2.toNat, Int.mul_pos (Int.pow_pos (by decide)) (Int.pow_pos (by decide)), ?_, ?_⟩
  · generalize (2 : Int) ^ y.2.toNat = Y at *
    generalize (2 : Int) ^ x.2.toNat = X at *
    generalize (2 : Int) ^ b = B at *
    generalize (2 : Int) ^ d = D at *
    have : x.1 * Y * (B * D) = (x.1 * B) * (Y * D) := by ac_rfl
    rw [this, v1]; ac_rfl
  · generalize (2 : Int) ^ y.2.toNat = Y at *
    generalize (2 : Int) ^ x.2.toNat = X at *
    generalize (2 : Int) ^ b = B at *
    generalize (2 : Int) ^ d = D at *
    have : y.1 * X * (B * D) = (y.1 * D) * (X * B) := by ac_rfl
    rw [this, v2]; ac_rfl
theorem lt_forms (a c : Int) (b d : Nat) : ((plainZ a b).1 * 2 ^ (plainZ c d).2.toNat < (plainZ c d).1 * 2 ^ (plainZ a b).2.toNat) ↔ (a * 2 ^ d < c * 2 ^ b) := by
  obtain ⟨S, hS, S', hS', e1, e2⟩ := scale a c b d
  constructor
  · intro h
    have h1 := Int.mul_lt_mul_of_pos_right h hS
    rw [e1, e2] at h1
    exact Int.lt_of_mul_lt_mul_right h1 (Int.le_of_lt hS')
  · intro h
    have h1 := Int.mul_lt_mul_of_pos_right h hS'
    rw [← e1, ← e2] at h1
    exact Int.lt_of_mul_lt_mul_right h1 (Int.le_of_lt hS)
theorem eq_forms (a c : Int) (b d : Nat) : ((plainZ a b).1 = (plainZ c d).1 ∧ (plainZ a b).2 = (plainZ c d).2) ↔ (a * 2 ^ d = c * 2 ^ b) := by
  obtain ⟨S, hS, S', hS', e1, e2⟩ := scale a c b d
  have w1 := plainZ_le a b
  have w2 := plainZ_le c d
  constructor
  · rintro ⟨h1, h2⟩
    have h3 : (plainZ a b).1 * 2 ^ (plainZ c d).2.toNat * S = (plainZ c d).1 * 2 ^ (plainZ a b).2.toNat * S := by rw [h1, h2]
    rw [e1, e2] at h3
    exact Int.eq_of_mul_eq_mul_right (Int.ne_of_gt hS') h3
  · intro h
    rw [h, ← e2] at e1
    have h1 := Int.eq_of_mul_eq_mul_right (Int.ne_of_gt hS) e1
    have p1 := plainZ_plain a b
    have p2 := plainZ_plain c d
    have r := plain_one (p := (plainZ a b).2.toNat) (q := (plainZ c d).2.toNat) (by omega) (by omega) h1
    exact ⟨r.1, by omega⟩
theorem bitAnd_one (x : Int) : Builtin.bitAnd x 1 = x % 2 := by
  exact PyProof.Rows.bitAnd_m1 x
end Mine
namespace Mine
open PySem PySem.Spec PyProof.Rows L2
open Evl (Ex)
/-- what of the class Dyadic's text is needed -/
structure FDyadic (K : PySem.W.Frag) : Prop where
  cl : Cls K (He.ga K "Dyadic")
  nt : NoAttr K (He.ga K "Dyadic") "_top"
  np : NoAttr K (He.ga K "Dyadic") "_power"
theorem ktp : ¬ (("_top" : Str) = "_power") := by decide +kernel
/-- its attributes -/
def dfs (t p : Int) : List (Str × V) := putF "_power" (.int p) (putF "_top" (.int t) [])
theorem dfs_top (t p : Int) : (dfs t p).lookup ("_top" : Str) = some (.int t) := by
  unfold dfs
  rw [lookup_putF, if_neg ktp, lookup_putF, if_pos rfl]
theorem dfs_power (t p : Int) : (dfs t p).lookup ("_power" : Str) = some (.int p) := by
  unfold dfs
  rw [lookup_putF, if_pos rfl]
theorem dfs_no (t p : Int) {m : Str} (h1 : ¬ m = "_power") (h2 : ¬ m = "_top") : (dfs t p).lookup m = none := by
  unfold dfs
  rw [lookup_putF, if_neg h1, lookup_putF, if_neg h2]
  all_goals rfl
theorem dfs_len (t p : Int) : (dfs t p).length < 1000 := by
  have h := length_putF "_power" (V.int p) (putF "_top" (V.int t) [])
  have h2 := length_putF "_top" (V.int t) []
  simp only [List.length_nil] at h2
  unfold dfs; omega
def okTop (a b : Int) : Prop := (-1000000000000 ≤ a ∧ a ≤ 1000000000000) ∧ 0 ≤ b ∧ b ≤ 40
/-- a Dyadic stands at a: its plain form's top and power -/
def DyAt (K : PySem.W.Frag) (H : Hp) (a : Addr) (t p : Int) : Prop := ∃ dx, H a = some (.ins (He.ga K "Dyadic") dx (dfs t p))
theorem DyAt.ex {K : PySem.W.Frag} {H H' : Hp} {a : Addr} {t p : Int} (h : DyAt K H a t p) (e : Ex H H') : DyAt K H' a t p :=
  let ⟨dx, q⟩ := h
  ⟨dx, e _ _ q⟩
theorem dy_inj {K : PySem.W.Frag} {H : Hp} {a : Addr} {t p t' p' : Int} (h : DyAt K H a t p) (h' : DyAt K H a t' p') : t = t' ∧ p = p' := by
  obtain ⟨dx, h⟩ := h
  obtain ⟨dx', h'⟩ := h'
  have e := Option.some.inj (h.symm.trans h')
  injection e with _ _ e
  have e1 := congrArg (fun l => List.lookup ("_top" : Str) l) e
  have e2 := congrArg (fun l => List.lookup ("_power" : Str) l) e
  simp only [dfs_top, dfs_power, Option.some.injEq, V.int.injEq] at e1 e2
  exact ⟨e1, e2⟩
theorem dy_tr {K : PySem.W.Frag} {H H' : Hp} {a : Addr} {t p : Int} (e : Ex H H') (h : DyAt K H a t p) : DyAt K H' a t p := h.ex e
theorem dy_prop {K : PySem.W.Frag} {H : Hp} {a : Addr} {t p : Int} {P : Addr → Prop} (h : DyAt K H a t p) (q : P a) :
    ∃ b dx fs, V.ref a = V.ref b ∧ H b = some (HO.ins (He.ga K "Dyadic") dx fs) ∧ P b :=
  let ⟨dx, e⟩ := h
  ⟨a, dx, _, rfl, e, q⟩
theorem dy_isC {K : PySem.W.Frag} {H : Hp} {Q : VK} {a : Addr} {t p : Int} (h : DyAt K H a t p) (q : Q (.bl true) H) : rIsC (He.ga K "Dyadic") [.ref a, .ref (He.ga K "Dyadic")] H Q :=
  let ⟨dx, e⟩ := h
  ⟨a, dx, _, rfl, e, q⟩
/-- x.m(..): what a method call asks of a Dyadic -/
theorem dy_meth {K : PySem.W.Frag} {H : Hp} {a : Addr} {t p : Int} {m : Str} {P : Prop} (h : DyAt K H a t p) (h1 : ¬ m = "_power") (h2 : ¬ m = "_top") (q : P) :
    ∃ b dx fs, V.ref a = V.ref b ∧ H b = some (HO.ins (He.ga K "Dyadic") dx fs) ∧ fs.lookup m = none ∧ P :=
  let ⟨dx, e⟩ := h
  ⟨a, dx, _, rfl, e, dfs_no _ _ h1 h2, q⟩
end Mine
namespace Mine
open PySem PySem.Spec PyProof.Rows L2
/-! dicts whose keys are pairs of tuples of ints and whose values are ints -/
abbrev Pr := List Int × List Int
def keyOf (p : Pr) : NestedKey := .tup [.tup (p.1.map .num), .tup (p.2.map .num)]
theorem nums_inj : ∀ {a b : List Int}, a.map NestedKey.num = b.map NestedKey.num → a = b
  | [], [], _ => rfl
  | [], _ :: _, e => by simp at e
  | _ :: _, [], e => by simp at e
  | x :: xs, y :: ys, e => by
    rw [List.map_cons, List.map_cons] at e
    injection e with e1 e2
    injection e1 with e1
    rw [e1, nums_inj e2]
theorem keyOf_inj {p q : Pr} (h : keyOf p = keyOf q) : p = q := by
  unfold keyOf at h
  injection h with h
  injection h with h1 h2
  injection h2 with h2 _
  injection h1 with h1
  injection h2 with h2
  exact Prod.ext (nums_inj h1) (nums_inj h2)
theorem nums_flat : ∀ l : List Int, NestedKey.depthAll (l.map .num) = 0
  | [] => rfl
  | x :: l => by
    rw [List.map_cons, NestedKey.depthAll, nums_flat l]
    rfl
theorem keyOf_deep (p : Pr) : (keyOf p).depth ≤ 8 := by
  unfold keyOf
  simp only [NestedKey.depth, NestedKey.depthAll, nums_flat]
  decide
/-- the tuple at b is the pair p of tuples of ints -/
def PrT (H : Hp) (b : Addr) (p : Pr) : Prop := ∃ c d, H b = some (.tup [.ref c, .ref d]) ∧ H c = some (.tup (p.1.map V.int)) ∧ H d = some (.tup (p.2.map V.int))
theorem PrT.ex {H H' : Hp} {b : Addr} {p : Pr} (t : PrT H b p) (k : ∀ c xs, H c = some (.tup xs) → H' c = some (.tup xs)) : PrT H' b p :=
  let ⟨c, d, h1, h2, h3⟩ := t
  ⟨c, d, k _ _ h1, k _ _ h2, k _ _ h3⟩
theorem nested_ints {h : Heap} : ∀ {ns : List Int} {us : List Value}, Vals (ns.map V.int) us → NestedAll h (ns.map .num) us
  | [], _, r => by rw [List.map_nil] at r; cases r; exact .nil
  | n :: ns, _, r => by
    rw [List.map_cons] at r
    cases r with
    | cons h t =>
      obtain ⟨tk, rfl⟩ := h
      exact .cons (.int n tk) (nested_ints t)
section
variable {P : Program} {w : World} {H : Hp} {h : Heap} {a b : Addr} {p : Pr}
theorem nested_tup {ns : List Int} (ok : HOk P w H h) (e : H a = some (.tup (ns.map V.int))) : NestedIs h (.tup (ns.map .num)) (.ref a) := by
  obtain ⟨_, its, r, o, h1, h2, n, h3⟩ := (show ObjOk P w H h a (.tup (ns.map V.int)) from ok a _ e)
  exact .tup h1 h2 h3 (by simpa using nested_ints r)
theorem PrT.key (t : PrT H b p) (ok : HOk P w H h) : (nestedKind P w).is h (keyOf p) b := by
  obtain ⟨c, d, e, ec, ed⟩ := t
  refine ⟨?_, keyOf_deep p⟩
  obtain ⟨_, its, r, o, h1, h2, n, h3⟩ := (show ObjOk P w H h b (.tup [.ref c, .ref d]) from ok b _ e)
  cases r with
  | cons r1 t1 =>
    cases t1 with
    | cons r2 t2 =>
      cases t2
      cases r1
      cases r2
      exact .tup h1 h2 h3 (.cons (nested_tup ok ec) (.cons (nested_tup ok ed) .nil))
end
abbrev Ent := Pr × Addr × Int
abbrev NP : List Ent → List (NestedKey × Addr × Value) → Prop := Paired fun p q => q.1 = keyOf p.1 ∧ q.2.1 = p.2.1 ∧ ∃ t, q.2.2 = Value.int p.2.2 t
def look (kvs : List Ent) (p : Pr) : Option Int := (kvs.find? fun e => decide (e.1 = p)).map (·.2.2)
theorem NP.look {kvs : List Ent} {xs : List (NestedKey × Addr × Value)} (r : NP kvs xs) (p : Pr) : RelO ((look kvs p).map V.int) ((atKey xs (keyOf p)).map (·.2)) := by
  induction r with
  | nil => exact True.intro
  | @cons e q es qs h t ih =>
    obtain ⟨h1, h2, tk, h3⟩ := h
    by_cases z : e.1 = p
    · have b : atKey (q :: qs) (keyOf p) = some q.2 := by simp [atKey, List.find?_cons, h1, z]
      have c : Mine.look (e :: es) p = some e.2.2 := by simp [Mine.look, List.find?_cons, z]
      rw [b, c]
      exact ⟨tk, h3⟩
    · have z' : ¬ q.1 = keyOf p := fun y => z (keyOf_inj (h1.symm.trans y))
      have b : atKey (q :: qs) (keyOf p) = atKey qs (keyOf p) := by simp [atKey, List.find?_cons, z']
      have c : Mine.look (e :: es) p = Mine.look es p := by simp [Mine.look, List.find?_cons, z]
      rw [b, c]
      exact ih
theorem NP.none_of {kvs : List Ent} {xs : List (NestedKey × Addr × Value)} (r : NP kvs xs) {p : Pr} (h : Mine.look kvs p = none) : atKey xs (keyOf p) = none := by
  have z := NP.look r p
  rw [h] at z
  cases q : atKey xs (keyOf p) with
  | none => rfl
  | some y => rw [q] at z; exact z.elim
theorem NP.len {kvs : List Ent} {xs : List (NestedKey × Addr × Value)} (r : NP kvs xs) : kvs.length = xs.length := Paired.length r
/-- what stands at a -/
def NdR (P : Program) (w : World) (h : Heap) (a : Addr) (kvs : List Ent) : Prop := kvs.length ≤ sizeLine ∧ (a == sysModules) = false ∧ ∃ xs : List (NestedKey × Addr × Value), NP kvs xs ∧
  ∃ o es ep, h.get? a = some o ∧ o.ExactDict ∧ o.data = .dict es ep ∧ es.toList = xs.map (entryOfKey (nestedKind P w)) ∧ (xs.map (·.1)).Nodup
def NdO (P : Program) (w : World) (a : Addr) (kvs : List Ent) : HO := .ext fun h => NdR P w h a kvs
def Keys (H : Hp) (kvs : List Ent) : Prop := ∀ e ∈ kvs, PrT H e.2.1 e.1
theorem NP.keys {P : Program} {w : World} {H : Hp} {h : Heap} (ok : HOk P w H h) {kvs : List Ent} {xs : List (NestedKey × Addr × Value)} (r : NP kvs xs) : (∀ e ∈ kvs, PrT H e.2.1 e.1) → ∀ x ∈ xs, (nestedKind P w).is h x.1 x.2.1 := by
  induction r with
  | nil => intro _ x hx; exact nomatch hx
  | @cons e q es qs hq t ih =>
    intro k x hx
    rcases List.mem_cons.mp hx with z | hx
    · subst z
      obtain ⟨h1, h2, _⟩ := hq
      rw [h1, h2]
      exact (k e List.mem_cons_self).key ok
    · exact ih (fun e' m => k e' (List.mem_cons_of_mem _ m)) x hx
theorem nd_at {P : Program} {w : World} {H : Hp} {h : Heap} {a : Addr} {kvs : List Ent} (ok : HOk P w H h) (e : H a = some (NdO P w a kvs)) (k : Keys H kvs) :
    kvs.length ≤ sizeLine ∧ (a == sysModules) = false ∧ ∃ xs, NP kvs xs ∧ h.DictOfH (nestedKind P w) a xs := by
  obtain ⟨z, y, xs, r, o, es, ep, h1, h2, h3, h4, h5⟩ := (ok a _ e).1
  exact ⟨z, y, xs, r, o, es, ep, h1, h2, h3, h4, NP.keys ok r k, h5⟩
theorem nd_new {P : Program} {w : World} {H : Hp} {h : Heap} {a : Addr} {kvs : List Ent} (R : NdR P w h a kvs) : ObjOk P w H h a (NdO P w a kvs) := by
  have ⟨_, _, _, _, o, _, _, ho, _⟩ := R
  refine ⟨R, ⟨o, ho⟩, fun h1 h2 p k => ?_⟩
  obtain ⟨z, y, xs, r, o, es, ep, g1, g⟩ := p
  exact ⟨z, y, xs, r, o, es, ep, k _ g1, g⟩
section
variable {X : Cx} {pins : List (Addr × Obj)} {σ : L2.St} {H : Hp} {s : Shared} {a b : Addr} {kvs : List Ent} {p : Pr} {A : Around} {E : Value → Shared → Prop}
theorem n_get {v : Int} {Q : Value → Shared → Prop} (hu : A.units + 9 < cLine) (I : Inv X pins σ H s) (e : H a = some (NdO X.prog X.w a kvs)) (k : Keys H kvs) (kb : PrT H b p) (l : look kvs p = some v)
    (h : ∀ w' s', Inv X pins σ H s' → RelV (.int v) w' → Q w' s') : wpAny (model X.prog X.w) A (getItem (.ref a) (.ref b)) Q E s := by
  obtain ⟨z, hd, xs, r, dd⟩ := nd_at I.hok e k
  have rl := NP.look r p
  rw [l] at rl
  cases q : atKey xs (keyOf p) with
  | none => rw [q] at rl; exact rl.elim
  | some y =>
    rw [q] at rl
    exact wpAny_getItem_heap (knd := nestedKind X.prog X.w) (show A.in1.units + 8 < cLine by rw [Around.in1_units]; omega) (kb.key I.hok) dd q (h y.2 _ (I.tok _) rl)
theorem n_notin {Q : Value → Shared → Prop} (hu : A.units + 9 < cLine) (I : Inv X pins σ H s) (e : H a = some (NdO X.prog X.w a kvs)) (k : Keys H kvs) (kb : PrT H b p)
    (h : ∀ s', Inv X pins σ H s' → Q (.bool (!(look kvs p).isSome)) s') : wpAny (model X.prog X.w) A (compareOp .NotIn (.ref b) (.ref a)) Q E s := by
  obtain ⟨z, hd, xs, r, dd⟩ := nd_at I.hok e k
  refine wpAny_notIn_heap (knd := nestedKind X.prog X.w) (show A.in1.units + 8 < cLine by rw [Around.in1_units]; omega) (kb.key I.hok) hd dd ?_
  have rl := NP.look r p
  have e2 : (atKey xs (keyOf p)).isSome = (look kvs p).isSome := by
    cases q : atKey xs (keyOf p) with
    | none =>
      cases q2 : look kvs p with
      | none => rfl
      | some v => rw [q, q2] at rl; exact rl.elim
    | some y =>
      cases q2 : look kvs p with
      | none => rw [q, q2] at rl; exact rl.elim
      | some v => rfl
  rw [e2]
  exact h _ (I.tok _)
theorem n_put {v : Int} {u : Value} {Q : Unit → Shared → Prop} (hu : A.units + 9 < cLine) (I : Inv X pins σ H s) (e : H a = some (NdO X.prog X.w a kvs)) (k : Keys H kvs) (kb : PrT H b p) (l : look kvs p = none) (hl : kvs.length < sizeLine) (ru : RelV (.int v) u)
    (h : ∀ s', Inv X pins σ (upd H a (NdO X.prog X.w a (kvs ++ [(p, b, v)]))) s' → Q () s') : wpAny (model X.prog X.w) A (setItem (.ref a) (.ref b) u) Q E s := by
  obtain ⟨z, hd, xs, r, dd⟩ := nd_at I.hok e k
  have hz : xs.length ≤ sizeLine := by rw [← NP.len r]; exact z
  have hn := NP.none_of r l
  refine wpAny_setItem_heap (hsz := hz) (knd := nestedKind X.prog X.w) (show A.in1.units + 8 < cLine by rw [Around.in1_units]; omega) (kb.key I.hok) dd fun h' dd' hs => h _ ?_
  rw [storedH_new hn] at dd'
  obtain ⟨q, es, ep, hq, h2, h3, h4, _, h5⟩ := dd'
  refine I.write (x := a) (e := a) (by rw [e]; exact True.intro) (.inl rfl) (fun c u hc y => (hs.2 c hc).trans y) ⟨q, hq⟩ (nd_new ⟨?_, hd, _, Paired.snoc r ⟨rfl, rfl, (show ∃ tk, u = Value.int v tk from ru)⟩, q, es, ep, hq, h2, h3, h4, h5⟩)
  rw [List.length_append, List.length_singleton]
  omega
end
/-! readings and rules -/
/-- d[k] -/
def tNGet (P : Program) (w : World) (td ty : TE) : TE := fun σ H Q => td σ H fun x H1 => ty σ H1 fun y H2 => ∃ a b kvs p v, x = V.ref a ∧ y = V.ref b ∧ H2 a = some (NdO P w a kvs) ∧ Keys H2 kvs ∧ PrT H2 b p ∧ look kvs p = some v ∧ Q (.int v) H2
/-- k not in d -/
def tNNot (P : Program) (w : World) (ty td : TE) : TE := fun σ H Q => ty σ H fun y H1 => td σ H1 fun x H2 => ∃ a b kvs p, x = V.ref a ∧ y = V.ref b ∧ H2 a = some (NdO P w a kvs) ∧ Keys H2 kvs ∧ PrT H2 b p ∧ Q (.bl (!(look kvs p).isSome)) H2
/-- d[k] = v, a new key -/
def sNPut (P : Program) (w : World) (td ty tv : TE) : TS := fun D σ H => tv σ H fun z H1 => td σ H1 fun x H2 => ty σ H2 fun y H3 => ∃ a b kvs p v, z = V.int v ∧ x = V.ref a ∧ y = V.ref b ∧ H3 a = some (NdO P w a kvs) ∧ Keys H3 kvs ∧ PrT H3 b p ∧ look kvs p = none ∧
  kvs.length < sizeLine ∧ D.nx σ (upd H3 a (NdO P w a (kvs ++ [(p, b, v)])))
/-- {k: v} -/
def tNDisp (P : Program) (w : World) (tk tv : TE) : TE := fun σ H Q => ∀ d, H d = none → tk σ (upd H d (NdO P w d [])) fun y H1 => tv σ H1 fun z H2 => ∃ b p v, y = V.ref b ∧ z = V.int v ∧ H2 d = some (NdO P w d []) ∧ PrT H2 b p ∧
  Q (.ref d) (upd H2 d (NdO P w d [(p, b, v)]))
section
variable {X : Cx} {o i e value : Expr} {pos pos' : Pos} {td ty tv tk : TE}
theorem nd_type {P : Program} {w : World} {s : Shared} {H : Hp} {a : Addr} {kvs : List Ent} (ok : HOk P w H s.heap) (e : H a = some (NdO P w a kvs)) : s.TypeIs (.ref a) "dict" := by
  obtain ⟨_, _, _, _, o, es, ep, h1, h2, _⟩ := (ok a _ e).1
  exact ⟨o, h1, h2.1⟩
theorem pe_nget (hu : X.A.units + 9 < cLine) (ho : PE X o td) (hi : PE X i ty) (hs : NoSl i) : PE X (.Subscript o i pos) (tNGet X.prog X.w td ty) := by
  refine ⟨fun pins s σ H Q I h => ?_⟩
  refine subD_of PySem.F.slot_dict_getitem.lookup hs (thn (ho.run pins s σ H _ I h) fun u s1 z1 => ?_)
  obtain ⟨x, H1, I1, rx, q1⟩ := z1
  refine thn (hi.run pins s1 σ H1 _ I1 q1) fun iv s2 z2 => ?_
  obtain ⟨y, H2, I2, ry, a, b, kvs, p, v, ex, ey, g, kk, kb, l, q2⟩ := z2
  subst ex ey
  obtain rfl : u = Value.ref a := rx
  obtain rfl : iv = Value.ref b := ry
  exact ⟨nd_type I2.hok g, n_get hu I2 g kk kb l fun w' s3 I3 rw' => ⟨.int v, H2, I3, rw', q2⟩⟩
theorem pc_nnot (hu : X.A.units + 9 < cLine) (hi : PE X i ty) (ho : PE X o td) : PC X .NotIn i o (tNNot X.prog X.w ty td) := by
  refine ⟨fun pins s σ H Q I h => ?_⟩
  refine thn (hi.run pins s σ H _ I h) fun iv s1 z1 => ?_
  obtain ⟨y, H1, I1, ry, q1⟩ := z1
  refine thn (ho.run pins s1 σ H1 _ I1 q1) fun u s2 z2 => ?_
  obtain ⟨x, H2, I2, rx, a, b, kvs, p, ex, ey, g, kk, kb, q2⟩ := z2
  subst ex ey
  obtain rfl : u = Value.ref a := rx
  obtain rfl : iv = Value.ref b := ry
  exact n_notin hu I2 g kk kb fun s3 I3 => ⟨.bl (!(look kvs p).isSome), H2, I3, rfl, q2⟩
theorem ps_nput (hu : X.A.units + 9 < cLine) (ho : PE X o td) (hi : PE X i ty) (hv : PE X value tv) (hs : swapsWith value (some (.Subscript o i pos')) pos.line X.env = pure false) :
    PS X (.Assign [.Subscript o i pos'] value pos) (sNPut X.prog X.w td ty tv) := by
  refine ⟨fun pins s σ H D I h => ?_⟩
  refine wpAny_Assign_Subscript (thn (hv.run pins s σ H _ I h) fun r s1 z1 => ?_) hs
  obtain ⟨z, H1, I1, rv, q1⟩ := z1
  refine thn (ho.run pins s1 σ H1 _ I1 q1) fun u s2 z2 => ?_
  obtain ⟨x, H2, I2, rx, q2⟩ := z2
  refine thn (hi.run pins s2 σ H2 _ I2 q2) fun iv s3 z3 => ?_
  obtain ⟨y, H3, I3, ry, a, b, kvs, p, v, ez, ex, ey, g, kk, kb, l, hl, q3⟩ := z3
  subst ex ey ez
  obtain rfl : u = Value.ref a := rx
  obtain rfl : iv = Value.ref b := ry
  exact n_put hu I3 g kk kb l hl rv fun s4 I4 => ⟨σ, _, I4, q3⟩
theorem pe_ndisp {k v : Expr} (hu : X.A.units + 9 < cLine) (hk : PE X k tk) (hv : PE X v tv) : PE X (.Dict [some k] [v] pos) (tNDisp X.prog X.w tk tv) := by
  refine ⟨fun pins s σ H Q I h => ?_⟩
  have hn := I.hok.fresh (Nat.le_refl s.heap.objs.size)
  have hb := I.big
  have R0 : NdR X.prog X.w (s.heap.push { cls := .type "dict", data := .dict #[] }) s.heap.objs.size [] :=
    ⟨Nat.zero_le _, beq_eq_false_iff_ne.mpr (Ne.symm (Nat.ne_of_lt hb)), [], .nil, _, #[], 0, Heap.get?_push_size _ rfl, ⟨rfl, rfl, rfl⟩, rfl, rfl, List.nodup_nil⟩
  have I1 := I.laid (a := s.heap.objs.size) (o := NdO X.prog X.w s.heap.objs.size []) (h' := s.heap.push { cls := .type "dict", data := .dict #[] }) (t' := s.toks) (fun _ _ q => Heap.get?_push_of_some _ q) (Nat.le_refl _) (nd_new R0)
  refine wpAny_Dict_any rfl rfl (by simp) (show 1 ≤ 15 by decide) ?_
  refine pairTrees_cons_walk (thn (hk.run pins _ σ _ _ I1 (h _ hn)) fun u s1 z1 => ?_)
  obtain ⟨y, H1, I2, ry, q1⟩ := z1
  refine thn (hv.run pins s1 σ H1 _ I2 q1) fun u2 s2 z2 => ?_
  obtain ⟨z, H2, I3, rz, b, p, n, ey, ez, g, kb, q2⟩ := z2
  subst ey ez
  obtain rfl : u = Value.ref b := ry
  refine pairTrees_nil_walk ?_
  unfold storeAll
  rw [List.forIn_cons]
  obtain ⟨zz, hd, xs, r, dd⟩ := nd_at I3.hok g (fun e m => nomatch m)
  cases r
  refine wpAny_bind (wpAny_bind (wpAny_dictSet_heap (hsz := Nat.zero_le _) (knd := nestedKind X.prog X.w) (show X.A.units + 8 < cLine by omega) (kb.key I3.hok) dd fun h' dd' hs => ?_))
  refine wpAny_pure ?_
  dsimp only
  rw [List.forIn_nil]
  refine wpAny_pure ⟨.ref s.heap.objs.size, _, ?_, rfl, q2⟩
  rw [storedH_new rfl] at dd'
  obtain ⟨q, es, ep, hq, h2, h3, h4, _, h5⟩ := dd'
  exact I3.write (x := s.heap.objs.size) (e := s.heap.objs.size) (by rw [g]; exact True.intro) (.inl rfl) (fun c u hc y => (hs.2 c hc).trans y) ⟨q, hq⟩ (nd_new ⟨(show 1 ≤ sizeLine by decide), hd, _, .cons ⟨rfl, rfl, (show ∃ tk, u2 = Value.int n tk from rz)⟩ .nil, q, es, ep, hq, h2, h3, h4, h5⟩)
end
end Mine
namespace Mine
open PySem PySem.Spec PyProof.Rows L2
open Sem (wp)
/-! set(xs) of a list of isI -/
abbrev emO (w : World) : Obj := { cls := .type "set", dict := none, data := .set #[] 0 (.fresh 0 0 (!w.params.followText "set-order")) }
section
variable {P : Program} {w : World} {A : Around} {E : Value → Shared → Prop} {s : Shared}
/-- the new set S holds the isI of ns, all else is kept -/
structure Filled (w : World) (h h' : Heap) (S : Addr) (ns : List Int) (c : Nat) : Prop where
  set : SetR w h' S (fun j => decide (j ∈ ns)) c
  few : c ≤ ns.length
  old : ∀ b o, h.get? b = some o → h'.get? b = some o
set_option maxHeartbeats 3200000 in
theorem set_of_ints {l : Addr} {xs : Array Value} (ns : List Int) {Q : Value → Shared → Prop} (calm : A.handled = none) (at_l : s.heap.IsList l xs) (isI : IntsAre xs.toList ns) (room : ns.length + 1 < scanBound)
    (q : ∀ (g : Heap) (tk c : Nat), Filled w s.heap g s.heap.objs.size ns c → Q (.ref s.heap.objs.size) { s with heap := g, toks := tk }) : wpAny (model P w) A (call (.type "set") [.ref l]) Q E s := by
  have many : xs.size = ns.length := by rw [← IntsAre.length isI, Array.length_toList]
  let h1 : Heap := s.heap.push (emO w)
  have hd : h1 = s.heap.push (emO w) := rfl
  have zS : h1.get? s.heap.objs.size = some (emO w) := Heap.get?_push_size _ rfl
  have sz1 : h1.objs.size = s.heap.objs.size + 1 := Heap.size_push ..
  have lt_l : l < s.heap.objs.size := let ⟨o, ho, _⟩ := at_l; Heap.lt_size ho
  have ty1 : Shared.TypeIs { s with heap := h1 } (.ref s.heap.objs.size) "set" := ⟨_, zS, rfl⟩
  have ls1 : h1.IsList l xs := at_l.push _
  clear_value h1
  obtain ⟨c0, t0, m0⟩ := F.called_set.mro
  have m1 := F.called_set.made; have m2 := F.called_set.sub; have m3 := F.called_set.notType; have m4 := F.called_set.canCreate
  have m5 := F.typeCall_set_1 (.ref l); have m6 := F.called_set.init.lookup; have m7 := F.called_set.init.bind (.ref s.heap.objs.size)
  refine wpAny_call (codeAny_of_tree (show wpAny _ _ (callAny (.type "set") _) _ _ _ from ?_))
  refine wpAny_pure ⟨Code.quiet_builtin _ (by decide +kernel), codeAny_builtin F.entry_type_call ?_⟩
  rw [Around.under_plain (weight_type_call_type "set" [.ref l] []) rfl]
  repeat (any_goals (first | assumption | wp_step))
  refine codeAny_mono (code_set_led1 (.ref l) (E := E) (Q₁ := fun v s' => v = .ref s.heap.objs.size ∧ s' = { s with heap := h1 }) ⟨rfl, by rw [hd]⟩) fun r s' hr => ?_
  rcases r with e | fl
  · exact hr
  cases fl with
  | ret v =>
    obtain ⟨rfl, rfl⟩ := hr
    repeat (any_goals (first | assumption | wp_step))
    refine codeAny_mono (codeAny_call_builtin (R := wants (fun v s' => v = .none ∧ ∃ g tk c, s' = { s with heap := g, toks := tk } ∧ Filled w s.heap g s.heap.objs.size ns c) E) F.called_set.init.plain F.entry_set_init (check_set_init_1 ty1 ?_)) fun r s' hr => ?_
    · obtain ⟨⟨oc, od, oa, os⟩, got, e1, n1, e2⟩ := at_l
      simp only at e1 e2
      subst e1; subst e2
      have got1 : h1.get? l = some { cls := .type "list", dict := od, data := .seq xs n1, slots := os } := by rw [hd]; exact Heap.get?_push_of_some _ got
      have k1 := F.sub_list_set; have k2 := F.sub_list_frozenset
      have k3 : (Value.type "list" == Value.type "dict") = false := by decide
      unfold Builtin.«set.__init__» noKeywords Builtin.Frozenset.updateFrom
      generalize hit : pyIter = IT
      wp_walk
      subst hit
      refine wpAny_pyIter_list ls1 (wpAny_bind (wpAny_runValue ?_))
      have calm3 : A.in1.in1.in1.handled = none := by simp [calm]
      have apart : l ≠ h1.objs.size := by rw [sz1]; exact Nat.ne_of_lt (Nat.lt_succ_of_lt lt_l)
      have notin : s.heap.objs.size ∉ [h1.objs.size, l] := by
        rw [sz1]
        intro m
        rcases List.mem_cons.mp m with e | m
        · exact absurd e (Nat.ne_of_lt (Nat.lt_succ_self _))
        · rw [List.mem_singleton] at m
          exact absurd lt_l (by rw [← m]; exact Nat.lt_irrefl _)
      refine set_update_ints ((Walks.list calm3 _ l apart xs).toS) s.heap.objs.size notin ns many room (fun i v hv => ?_) xs.size 0 _ (by omega) (Nat.zero_le _) ⟨⟨_, Heap.get?_push_size _ rfl, rfl, rfl⟩, ls1.push _⟩ ⟨0, Nat.le_refl 0, setR_new_at (Heap.get?_push_of_some _ zS)⟩ fun s' c moved le R => ?_
      · have hi : i < ns.length := by rw [← many]; exact (Array.getElem?_eq_some_iff.mp hv).1
        obtain ⟨t, e⟩ := PyProof.Rows.IntsAre.int_at isI i v (by rw [Array.getElem?_toList]; exact hv)
        exact ⟨ns[i], t, List.getElem?_eq_getElem hi, by rw [e, List.getD_eq_getElem?_getD, List.getElem?_eq_getElem hi]; rfl⟩
      · obtain ⟨g, g2, d2, tk, o2⟩ := s'
        obtain rfl : g2 = s.gens := moved.gens
        obtain rfl : d2 = s.drawn := moved.drawn
        obtain rfl : o2 = s.os := moved.os
        refine (show wpAny _ _ _ _ _ _ from wpAny_pure (show wpAny _ _ (ret Value.none) _ _ _ from wpAny_pure ⟨rfl, g, tk, c, rfl, R, by rw [← many]; exact le, fun b o e => ?_⟩))
        have lt := Heap.lt_size e
        refine moved.heap b o (fun m => ?_) (Heap.get?_push_of_some _ (by rw [hd]; exact Heap.get?_push_of_some _ e))
        rcases List.mem_cons.mp m with z | m
        · exact absurd lt (by rw [z]; exact Nat.lt_irrefl _)
        · rw [List.mem_singleton, sz1] at m
          exact absurd lt (by rw [m]; exact Nat.not_lt_of_le (Nat.le_succ _))
    · rcases r with e | fl
      · exact hr
      cases fl with
      | ret v =>
        obtain ⟨rfl, g, tk, c, rfl, R⟩ := hr
        repeat (any_goals (first | assumption | wp_step))
        exact q g tk c R
      | _ => exact hr.elim
  | _ => exact hr.elim
end
section
variable {X : Cx}
/-- set(xs), xs a list of ints -/
def rSetL (K : PySem.W.Frag) (w : World) : List V → Hp → VK → Prop := fun vs H Q => ∃ (l : Addr) (ns : List Int), vs = [V.ref l] ∧ SqL K H l (ns.map V.int) ∧ ns.length + 1 < scanBound ∧
  ∀ (p : Addr) (c : Nat), H p = none → c ≤ ns.length → Q (.ref p) (upd H p (SetO w p (fun j => decide (j ∈ ns)) c))
theorem cr_setL (hc : X.calm = true) : CallR X (.type "set") (rSetL X.K X.w) := by
  intro pins s σ H vs us Q I r h
  obtain ⟨l, ns, rfl, hl, hb, q⟩ := h
  rw [Vals.ref1 r]
  obtain ⟨its, rv, ⟨ob, n, ho, h1, _, h2⟩, hlen⟩ := I.list hl
  refine set_of_ints ns (I.ok.hd hc) ⟨ob, ho, h1, n, h2⟩ (ints_of_vals (by simpa using rv)) hb fun g tk c f => ?_
  have hn := I.hok.fresh (Nat.le_refl s.heap.objs.size)
  exact ⟨.ref s.heap.objs.size, _, I.laid (a := s.heap.objs.size) (o := SetO X.w s.heap.objs.size (fun j => decide (j ∈ ns)) c) (t' := tk) f.old (Nat.le_refl _) (setO_new f.set), rfl, q _ c hn f.few⟩
end
end Mine
namespace Mine
open PySem PySem.Spec PyProof.Rows L2
open Evl (Ex)
/-! yards: what stands in the heap -/
structure FYard (K : PySem.W.Frag) : Prop where
  cl : Cls K (He.ga K "Yard")
  nl : NoAttr K (He.ga K "Yard") "_lefts"
  nr : NoAttr K (He.ga K "Yard") "_rights"
  nh : NoAttr K (He.ga K "Yard") "_heights"
  nn : NoAttr K (He.ga K "Yard") "_numbers"
  nt : NoAttr K (He.ga K "Yard") "_turned"
structure Foot where
  y : Addr
  dx : Addr
  l : Addr
  r : Addr
  h : Addr
  n : Addr
  t : Addr
theorem klr : ¬ (("_lefts" : Str) = "_rights") := by decide +kernel
theorem klh : ¬ (("_lefts" : Str) = "_heights") := by decide +kernel
theorem kln : ¬ (("_lefts" : Str) = "_numbers") := by decide +kernel
theorem klt : ¬ (("_lefts" : Str) = "_turned") := by decide +kernel
theorem krh : ¬ (("_rights" : Str) = "_heights") := by decide +kernel
theorem krn : ¬ (("_rights" : Str) = "_numbers") := by decide +kernel
theorem krt : ¬ (("_rights" : Str) = "_turned") := by decide +kernel
theorem khn : ¬ (("_heights" : Str) = "_numbers") := by decide +kernel
theorem kht : ¬ (("_heights" : Str) = "_turned") := by decide +kernel
theorem knt : ¬ (("_numbers" : Str) = "_turned") := by decide +kernel
def yfs (F : Foot) : List (Str × V) := putF "_turned" (.ref F.t) (putF "_numbers" (.ref F.n) (putF "_heights" (.ref F.h) (putF "_rights" (.ref F.r) (putF "_lefts" (.ref F.l) []))))
theorem yfs_l (F : Foot) : (yfs F).lookup ("_lefts" : Str) = some (.ref F.l) := by
  unfold yfs
  rw [lookup_putF, if_neg klt, lookup_putF, if_neg kln, lookup_putF, if_neg klh, lookup_putF, if_neg klr, lookup_putF, if_pos rfl]
theorem yfs_r (F : Foot) : (yfs F).lookup ("_rights" : Str) = some (.ref F.r) := by
  unfold yfs
  rw [lookup_putF, if_neg krt, lookup_putF, if_neg krn, lookup_putF, if_neg krh, lookup_putF, if_pos rfl]
theorem yfs_h (F : Foot) : (yfs F).lookup ("_heights" : Str) = some (.ref F.h) := by
  unfold yfs
  rw [lookup_putF, if_neg kht, lookup_putF, if_neg khn, lookup_putF, if_pos rfl]
theorem yfs_n (F : Foot) : (yfs F).lookup ("_numbers" : Str) = some (.ref F.n) := by
  unfold yfs
  rw [lookup_putF, if_neg knt, lookup_putF, if_pos rfl]
theorem yfs_t (F : Foot) : (yfs F).lookup ("_turned" : Str) = some (.ref F.t) := by
  unfold yfs
  rw [lookup_putF, if_pos rfl]
theorem yfs_no (F : Foot) {m : Str} (h1 : ¬ m = "_turned") (h2 : ¬ m = "_numbers") (h3 : ¬ m = "_heights") (h4 : ¬ m = "_rights") (h5 : ¬ m = "_lefts") : (yfs F).lookup m = none := by
  unfold yfs
  rw [lookup_putF, if_neg h1, lookup_putF, if_neg h2, lookup_putF, if_neg h3, lookup_putF, if_neg h4, lookup_putF, if_neg h5]
  rfl
/-- refs to tuples of ints -/
def Rows (H : Hp) (xs : List V) (gs : List (List Int)) : Prop := xs.length = gs.length ∧ ∀ (i : Nat) (g : List Int), gs[i]? = some g → ∃ a, xs[i]? = some (.ref a) ∧ H a = some (.tup (g.map V.int))
theorem Rows.ex {H H' : Hp} {xs : List V} {gs : List (List Int)} (r : Rows H xs gs) (k : ∀ c ys, H c = some (.tup ys) → H' c = some (.tup ys)) : Rows H' xs gs :=
  ⟨r.1, fun i g e => let ⟨a, h1, h2⟩ := r.2 i g e; ⟨a, h1, k _ _ h2⟩⟩
theorem Rows.snoc {H : Hp} {xs : List V} {gs : List (List Int)} (r : Rows H xs gs) {a : Addr} {g : List Int} (e : H a = some (.tup (g.map V.int))) : Rows H (xs ++ [.ref a]) (gs ++ [g]) := by
  refine ⟨by rw [List.length_append, List.length_append, r.1]; rfl, fun i g' z => ?_⟩
  by_cases h : i < gs.length
  · rw [List.getElem?_append_left h] at z
    obtain ⟨b, h1, h2⟩ := r.2 i g' z
    exact ⟨b, by rw [List.getElem?_append_left (by rw [r.1]; exact h)]; exact h1, h2⟩
  · have hi : i = gs.length := by
      have := (List.getElem?_eq_some_iff.mp z).1
      rw [List.length_append, List.length_singleton] at this
      omega
    subst hi
    rw [List.getElem?_append_right (Nat.le_refl _), Nat.sub_self] at z
    have e2 : g' = g := by injection z with z; exact z.symm
    subst e2
    exact ⟨a, by rw [← r.1, List.getElem?_append_right (Nat.le_refl _), Nat.sub_self]; rfl, e⟩
/-- the entries of the dict of forms -/
def EntOf (G : List Pr) (kvs : List Ent) : Prop := kvs.length = G.length ∧ ∀ (i : Nat) (g : Pr), G[i]? = some g → ∃ b, kvs[i]? = some (g, b, (i : Int))
/-- a list of ints, strictly ascending, from 0 on below n -/
def Asc (n : Nat) (l : List Int) : Prop := l.Pairwise (· < ·) ∧ ∀ x ∈ l, 0 ≤ x ∧ x < (n : Int)
/-- the forms of a yard's games, one behind the other -/
structure Forms (G : List Pr) : Prop where
  zero : G[0]? = some ([], [])
  one : G.Nodup
  asc : ∀ (i : Nat) (g : Pr), G[i]? = some g → Asc i g.1 ∧ Asc i g.2
/-- the height k of a list of heights -/
def hat (hs : List Int) (k : Int) : Int := hs.getD k.toNat 0
/-- h is the height of the form g, by the heights of its options -/
def IsHt (hs : List Int) (g : Pr) (h : Int) : Prop := (g.1 ++ g.2 = [] ∧ h = 0) ∨ ∃ m, m ∈ (g.1 ++ g.2).map (hat hs) ∧ (∀ y ∈ (g.1 ++ g.2).map (hat hs), y ≤ m) ∧ h = 1 + m
def HtOk (G : List Pr) (hs : List Int) : Prop := ∀ (i : Nat) (g : Pr), G[i]? = some g → IsHt hs g (hat hs i)
structure YardAt (P : Program) (w : World) (K : PySem.W.Frag) (H : Hp) (F : Foot) (G : List Pr) (hv : List Int) (ts : List (Key × V)) : Prop where
  ins : H F.y = some (.ins (He.ga K "Yard") F.dx (yfs F))
  ls : ∃ xs, H F.l = some (.lst xs) ∧ Rows H xs (G.map (·.1))
  rs : ∃ xs, H F.r = some (.lst xs) ∧ Rows H xs (G.map (·.2))
  hs : H F.h = some (.lst (hv.map V.int)) ∧ hv.length = G.length
  ns : ∃ kvs, H F.n = some (NdO P w F.n kvs) ∧ Mine.Keys H kvs ∧ EntOf G kvs
  ts : H F.t = some (.dK ts)
  ne : F.l ≠ F.r ∧ F.l ≠ F.h ∧ F.r ≠ F.h
  ht : HtOk G hv
  G : Forms G
/-- not one of the yard's own objects -/
def Off (F : Foot) (c : Addr) : Prop := c ≠ F.l ∧ c ≠ F.r ∧ c ≠ F.h ∧ c ≠ F.n ∧ c ≠ F.t
/-- all but the yard's own objects stays -/
def Gr (F : Foot) (H H' : Hp) : Prop := ∀ c o, H c = some o → Off F c → H' c = some o
theorem Gr.refl (F : Foot) (H : Hp) : Gr F H H := fun _ _ h _ => h
theorem Gr.trans {F : Foot} {H H1 H2 : Hp} (a : Gr F H H1) (b : Gr F H1 H2) : Gr F H H2 := fun c o h f => b c o (a c o h f) f
theorem Gr.of {F : Foot} {H H' : Hp} (e : Ex H H') : Gr F H H' := fun c o h _ => e c o h
section
variable {P : Program} {w : World} {K : PySem.W.Frag} {H H' : Hp} {F : Foot} {G : List Pr} {hs : List Int} {ts : List (Key × V)}
theorem YardAt.ex (Y : YardAt P w K H F G hs ts) (e : Ex H H') : YardAt P w K H' F G hs ts :=
  ⟨e _ _ Y.ins, let ⟨xs, h1, h2⟩ := Y.ls; ⟨xs, e _ _ h1, h2.ex fun c ys => e c _⟩, let ⟨xs, h1, h2⟩ := Y.rs; ⟨xs, e _ _ h1, h2.ex fun c ys => e c _⟩, ⟨e _ _ Y.hs.1, Y.hs.2⟩,
    let ⟨kvs, h1, h2, h3⟩ := Y.ns; ⟨kvs, e _ _ h1, fun x m => (h2 x m).ex fun c ys => e c _, h3⟩, e _ _ Y.ts, Y.ne, Y.ht, Y.G⟩
/-- a fresh address is off -/
theorem YardAt.fresh (Y : YardAt P w K H F G hs ts) {c : Addr} (h : H c = none) : Off F c := by
  obtain ⟨xs, hl, _⟩ := Y.ls
  obtain ⟨ys, hr, _⟩ := Y.rs
  obtain ⟨kvs, hn, _⟩ := Y.ns
  exact ⟨(ne_of_none hl h).symm, (ne_of_none hr h).symm, (ne_of_none Y.hs.1 h).symm, (ne_of_none hn h).symm, (ne_of_none Y.ts h).symm⟩
/-- a tuple is off -/
theorem YardAt.tup (Y : YardAt P w K H F G hs ts) {c : Addr} {xs : List V} (h : H c = some (.tup xs)) : Off F c := by
  obtain ⟨zs, hl, _⟩ := Y.ls
  obtain ⟨ys, hr, _⟩ := Y.rs
  obtain ⟨kvs, hn, _⟩ := Y.ns
  exact ⟨ne_of h hl (by intro z; cases z), ne_of h hr (by intro z; cases z), ne_of h Y.hs.1 (by intro z; cases z), ne_of h hn (by intro z; cases z), ne_of h Y.ts (by intro z; cases z)⟩
theorem YardAt.meth (Y : YardAt P w K H F G hs ts) {m : Str} {Z : Prop} (h1 : ¬ m = "_turned") (h2 : ¬ m = "_numbers") (h3 : ¬ m = "_heights") (h4 : ¬ m = "_rights") (h5 : ¬ m = "_lefts") (q : Z) :
    ∃ b dx fs, V.ref F.y = V.ref b ∧ H b = some (HO.ins (He.ga K "Yard") dx fs) ∧ fs.lookup m = none ∧ Z := ⟨F.y, F.dx, _, rfl, Y.ins, yfs_no F h1 h2 h3 h4 h5, q⟩
end
/-! lists of ints -/
theorem asc_ext : ∀ {a b : List Int}, a.Pairwise (· < ·) → b.Pairwise (· < ·) → (∀ k, k ∈ a ↔ k ∈ b) → a = b
  | [], [], _, _, _ => rfl
  | [], y :: b, _, _, h => absurd ((h y).mpr List.mem_cons_self) (by simp)
  | x :: a, [], _, _, h => absurd ((h x).mp List.mem_cons_self) (by simp)
  | x :: a, y :: b, ha, hb, h => by
    obtain ⟨a1, a2⟩ := List.pairwise_cons.mp ha
    obtain ⟨b1, b2⟩ := List.pairwise_cons.mp hb
    have e : x = y := by
      have h1 := (h x).mp List.mem_cons_self
      have h2 := (h y).mpr List.mem_cons_self
      rcases List.mem_cons.mp h1 with e | m1
      · exact e
      · rcases List.mem_cons.mp h2 with e | m2
        · exact e.symm
        · have := b1 x m1; have := a1 y m2; omega
    subst e
    congr 1
    refine asc_ext a2 b2 fun k => ⟨fun m => ?_, fun m => ?_⟩
    · rcases List.mem_cons.mp ((h k).mp (List.mem_cons_of_mem _ m)) with e | m'
      · subst e; exact absurd (a1 k m) (Int.lt_irrefl _)
      · exact m'
    · rcases List.mem_cons.mp ((h k).mpr (List.mem_cons_of_mem _ m)) with e | m'
      · subst e; exact absurd (b1 k m) (Int.lt_irrefl _)
      · exact m'
theorem asc_low : ∀ {l : List Int} {lo : Int} {n : Nat}, l.Pairwise (· < ·) → (∀ x ∈ l, lo ≤ x ∧ x < lo + n) → l.length ≤ n
  | [], _, _, _, _ => Nat.zero_le _
  | x :: l, lo, n, h, b => by
    obtain ⟨h1, h2⟩ := List.pairwise_cons.mp h
    have bx := b x List.mem_cons_self
    have z := asc_low (l := l) (lo := x + 1) (n := (lo + n - (x + 1)).toNat) h2 fun y m => by
      have := h1 y m
      have := b y (List.mem_cons_of_mem _ m)
      omega
    rw [List.length_cons]
    omega
theorem Asc.len {n : Nat} {l : List Int} (h : Asc n l) : l.length ≤ n := asc_low (lo := 0) h.1 fun x m => by have := h.2 x m; omega
theorem Asc.up {n m : Nat} {l : List Int} (h : Asc n l) (le : n ≤ m) : Asc m l := ⟨h.1, fun x i => by have := h.2 x i; omega⟩
/-- a form is kept: there already, or the new last one -/
def Put (G : List Pr) (p : Pr) (i : Int) (G' : List Pr) : Prop := (∃ k : Nat, i = k ∧ G[k]? = some p ∧ G' = G) ∨ (p ∉ G ∧ i = G.length ∧ G' = G ++ [p])
theorem Put.get {G G' : List Pr} {p : Pr} {i : Int} (h : Put G p i G') : ∃ k : Nat, i = k ∧ G'[k]? = some p := by
  rcases h with ⟨k, e, h, rfl⟩ | ⟨_, e, rfl⟩
  · exact ⟨k, e, h⟩
  · exact ⟨G.length, e, by rw [List.getElem?_append_right (Nat.le_refl _), Nat.sub_self]; rfl⟩
theorem nodup_at {α : Type} {l : List α} (n : l.Nodup) {i j : Nat} {a : α} (h : l[i]? = some a) (h' : l[j]? = some a) : i = j := by
  obtain ⟨l1, e1⟩ := List.getElem?_eq_some_iff.mp h
  obtain ⟨l2, e2⟩ := List.getElem?_eq_some_iff.mp h'
  have pw := List.pairwise_iff_getElem.mp (show l.Pairwise (· ≠ ·) from n)
  rcases Nat.lt_trichotomy i j with c | c | c
  · exact absurd (e1.trans e2.symm) (pw i j l1 l2 c)
  · exact c
  · exact absurd (e2.trans e1.symm) (pw j i l2 l1 c)
theorem Put.one {G G1 G2 : List Pr} {p : Pr} {i j : Int} (n : G.Nodup) (h : Put G p i G1) (h' : Put G p j G2) : i = j ∧ G1 = G2 := by
  rcases h with ⟨k, rfl, h, rfl⟩ | ⟨h1, rfl, rfl⟩
  · rcases h' with ⟨k', rfl, h', rfl⟩ | ⟨h1', _, _⟩
    · exact ⟨by rw [nodup_at n h h'], rfl⟩
    · exact absurd (List.mem_of_getElem? h) h1'
  · rcases h' with ⟨k', rfl, h', rfl⟩ | ⟨_, rfl, rfl⟩
    · exact absurd (List.mem_of_getElem? h') h1
    · exact ⟨rfl, rfl⟩
theorem Forms.put {G G' : List Pr} {p : Pr} {i : Int} (f : Forms G) (h : Put G p i G') (a : Asc G.length p.1) (b : Asc G.length p.2) : Forms G' := by
  rcases h with ⟨k, _, _, rfl⟩ | ⟨n, _, rfl⟩
  · exact f
  · refine ⟨?_, ?_, fun j g e => ?_⟩
    · have := (List.getElem?_eq_some_iff.mp f.zero).1
      rw [List.getElem?_append_left this]; exact f.zero
    · rw [List.nodup_append]
      refine ⟨f.one, by simp, fun x hx y hy e => ?_⟩
      rw [List.mem_singleton] at hy
      subst hy; subst e
      exact n hx
    · by_cases hj : j < G.length
      · rw [List.getElem?_append_left hj] at e; exact f.asc j g e
      · have hj2 : j = G.length := by
          have := (List.getElem?_eq_some_iff.mp e).1
          rw [List.length_append, List.length_singleton] at this
          omega
        subst hj2
        rw [List.getElem?_append_right (Nat.le_refl _), Nat.sub_self] at e
        injection e with e
        subst e
        exact ⟨a, b⟩
theorem Put.len {G G' : List Pr} {p : Pr} {i : Int} (h : Put G p i G') : G.length ≤ G'.length ∧ G'.length ≤ G.length + 1 ∧ 0 ≤ i ∧ i < G'.length := by
  rcases h with ⟨k, rfl, h, rfl⟩ | ⟨_, rfl, rfl⟩
  · have := (List.getElem?_eq_some_iff.mp h).1
    exact ⟨Nat.le_refl _, Nat.le_succ _, by omega, by omega⟩
  · rw [List.length_append, List.length_singleton]
    exact ⟨by omega, by omega, by omega, by omega⟩
theorem EntOf.look {G : List Pr} {kvs : List Ent} (e : EntOf G kvs) (n : G.Nodup) {p : Pr} : (p ∉ G → Mine.look kvs p = none) ∧ ∀ k : Nat, G[k]? = some p → Mine.look kvs p = some (k : Int) := by
  have mem : ∀ x ∈ kvs, ∃ i : Nat, G[i]? = some x.1 ∧ x.2.2 = (i : Int) := fun x m => by
    obtain ⟨i, hi, e1⟩ := List.mem_iff_getElem.mp m
    have lt : i < G.length := by rw [← e.1]; exact hi
    obtain ⟨b, e2⟩ := e.2 i G[i] (List.getElem?_eq_getElem lt)
    have e3 : kvs[i]? = some x := by rw [List.getElem?_eq_getElem hi, e1]
    rw [e3] at e2
    injection e2 with e2
    subst e2
    exact ⟨i, List.getElem?_eq_getElem lt, rfl⟩
  constructor
  · intro h
    unfold Mine.look
    rw [List.find?_eq_none.mpr]
    · rfl
    · intro x m z
      have z := of_decide_eq_true z
      obtain ⟨i, h1, _⟩ := mem x m
      exact h (z ▸ List.mem_of_getElem? h1)
  · intro k hk
    unfold Mine.look
    cases q : kvs.find? (fun e => decide (e.1 = p)) with
    | none =>
      obtain ⟨b, e2⟩ := e.2 k p hk
      have := List.find?_eq_none.mp q _ (List.mem_of_getElem? e2)
      simp at this
    | some x =>
      have h1 := List.find?_some q
      have h1 : x.1 = p := of_decide_eq_true h1
      obtain ⟨i, h2, h3⟩ := mem x (List.mem_of_find?_eq_some q)
      rw [h1] at h2
      have : i = k := nodup_at n h2 hk
      subst this
      show some x.2.2 = _
      rw [h3]
theorem EntOf.snoc {G : List Pr} {kvs : List Ent} (e : EntOf G kvs) (p : Pr) (b : Addr) : EntOf (G ++ [p]) (kvs ++ [(p, b, (G.length : Int))]) := by
  refine ⟨by rw [List.length_append, List.length_append, e.1]; rfl, fun i g h => ?_⟩
  by_cases hi : i < G.length
  · rw [List.getElem?_append_left hi] at h
    obtain ⟨c, h1⟩ := e.2 i g h
    exact ⟨c, by rw [List.getElem?_append_left (by rw [e.1]; exact hi)]; exact h1⟩
  · have hi2 : i = G.length := by
      have := (List.getElem?_eq_some_iff.mp h).1
      rw [List.length_append, List.length_singleton] at this
      omega
    subst hi2
    rw [List.getElem?_append_right (Nat.le_refl _), Nat.sub_self] at h
    injection h with h
    subst h
    exact ⟨b, by rw [← e.1, List.getElem?_append_right (Nat.le_refl _), Nat.sub_self]; rfl⟩
theorem hat_left {hs : List Int} {x k : Int} (h0 : 0 ≤ k) (h1 : k < hs.length) : hat (hs ++ [x]) k = hat hs k := by
  unfold hat
  rw [List.getD_eq_getElem?_getD, List.getElem?_append_left (by omega), ← List.getD_eq_getElem?_getD]
theorem hat_new (hs : List Int) (x : Int) : hat (hs ++ [x]) (hs.length : Nat) = x := by
  unfold hat
  rw [List.getD_eq_getElem?_getD, Int.toNat_natCast, List.getElem?_append_right (Nat.le_refl _), Nat.sub_self]
  rfl
theorem hats_left {hs : List Int} {x : Int} {n : Nat} {l : List Int} (a : ∀ k ∈ l, 0 ≤ k ∧ k < (n : Int)) (le : n ≤ hs.length) : l.map (hat (hs ++ [x])) = l.map (hat hs) := by
  refine List.map_congr_left fun k m => ?_
  have := a k m
  exact hat_left this.1 (by omega)
theorem Asc.both {n : Nat} {g : Pr} (a : Asc n g.1) (b : Asc n g.2) : ∀ k ∈ g.1 ++ g.2, 0 ≤ k ∧ k < (n : Int) := fun k m => by
  rcases List.mem_append.mp m with h | h
  · exact a.2 k h
  · exact b.2 k h
theorem HtOk.snoc {G : List Pr} {hs : List Int} (o : HtOk G hs) (l : hs.length = G.length) (f : Forms G) {p : Pr} (a : Asc G.length p.1) (b : Asc G.length p.2) {h : Int} (n : IsHt hs p h) : HtOk (G ++ [p]) (hs ++ [h]) := by
  intro i g e
  by_cases hi : i < G.length
  · rw [List.getElem?_append_left hi] at e
    obtain ⟨a1, a2⟩ := f.asc i g e
    rw [hat_left (by omega) (by omega)]
    unfold IsHt
    rw [hats_left (Asc.both a1 a2) (by omega)]
    exact o i g e
  · have hi2 : i = G.length := by
      have := (List.getElem?_eq_some_iff.mp e).1
      rw [List.length_append, List.length_singleton] at this
      omega
    subst hi2
    rw [List.getElem?_append_right (Nat.le_refl _), Nat.sub_self] at e
    injection e with e
    subst e
    rw [← l, hat_new]
    unfold IsHt
    rw [hats_left (Asc.both a b) (by omega)]
    exact n
/-- the height of a new game -/
def Hgt (G : List Pr) (hs : List Int) (p : Pr) (G' : List Pr) (hs' : List Int) : Prop := (p ∈ G ∧ hs' = hs) ∨ (p ∉ G ∧ ∃ m, hs' = hs ++ [1 + m] ∧ m ∈ (p.1 ++ p.2).map (hat hs) ∧ ∀ y ∈ (p.1 ++ p.2).map (hat hs), y ≤ m)
end Mine
namespace Mine
open PySem PySem.Spec PyProof.Rows L2
/-! sorted(a set of ints), up to a thousand of them -/
theorem raw_iv (v : Value) (h : ∃ k tk, v = Value.int k tk) : Builtin.Re.reRawOf v = SrtO.iv v := by
  obtain ⟨k, tk, rfl⟩ := h; rfl
section
variable {P : Program} {w : World} {A : Around} {E : Value → Shared → Prop} {s : Shared}
set_option maxHeartbeats 1600000 in
theorem set_in_order {a : Addr} {S : Int → Bool} {n : Nat} {Q : Value → Shared → Prop} (r : SetR w s.heap a S n) (calm : A.handled = none) (few : n ≤ 1000)
    (q : ∀ (s' : Shared) (p : Addr) (out : Array Value) (c : Nat) (ns : List Int), (∀ b o, s.heap.get? b = some o → s'.heap.get? b = some o) → s'.gens = s.gens → s'.os = s.os → s.heap.objs.size ≤ p →
      s'.heap.get? p = some (seqObj "list" out c) → IntsAre out.toList ns → ns.Pairwise (· < ·) → (∀ k, k ∈ ns ↔ S k = true) → ns.length = n → Q (.ref p) s') :
    wpAny (model P w) A (call (.builtin "sorted") [.ref a]) Q E s := by
  obtain ⟨o, es, ep, t, ho, hex, hd, g, one, mem, hb, hf, cnt, ris, led⟩ := r
  refine Calls.call_function_entry kind_sorted plain_sorted entry_sorted (args_sorted1 _) ?_
  unfold Builtin.«sorted»
  refine wpAny_bind (m := checkCount "sorted" 1 1 _) (wpAny_pure ?_)
  refine wpAny_bind (collect_set (A := A.in1) calm ⟨o, ho, hex.1, hd⟩ hf hb ris led fun s1 vs old hz gens1 os1 pm => ?_)
  have many : vs.length = n := by rw [pm.length_eq, List.length_map, Array.length_toList]; exact cnt
  have isI : ∀ v ∈ vs, ∃ k tk, v = Value.int k tk := fun v hv => by
    obtain ⟨e, he, z⟩ := List.mem_map.mp (pm.mem_iff.mp hv)
    obtain ⟨k, tk, h1, _⟩ := g e he
    exact ⟨k, tk, by rw [← z]; exact h1⟩
  have isL := SrtO.ints_iv isI
  have keys : (vs.map SrtO.iv).Perm (es.toList.map L2.keyOf) := by
    have z := pm.map Builtin.Re.reRawOf
    rw [List.map_map] at z
    have e : vs.map Builtin.Re.reRawOf = vs.map SrtO.iv := List.map_congr_left fun v hv => raw_iv v (isI v hv)
    rw [e] at z
    exact z
  have line : vs.length ≤ sizeLine := by rw [many]; exact Nat.le_trans few (by decide)
  refine wpAny_bind (wpAny_newList ?_ line)
  have at_l : (s1.heap.push (seqObj "list" vs.toArray 0)).get? s1.heap.objs.size = some (seqObj "list" vs.toArray 0) := Heap.get?_push_size _ rfl
  refine wpAny_bind (wpAny_holding (wpAny_call_entry slot_list_sort ⟨_, at_l, rfl⟩ entry_list_sort (SrtO.list_sort_ord SrtO.swo_int at_l line (fun h2 => SrtO.ints_sortable isL h2) fun out h1 h2 => ⟨_, rfl, ?_⟩) (args_list_sort _)))
  obtain ⟨k1, k2, k3⟩ := SrtO.ints_out isL h1 h2
  obtain ⟨c, hc⟩ := sortedHeap_at (vs := vs) (out := out.toArray) at_l
  have pn := k2.trans keys
  refine wpAny_pure ⟨_, rfl, q _ s1.heap.objs.size out.toArray c (out.map SrtO.iv) (fun b u e => ?_) gens1 os1 hz hc k1 (lt_of_le_nodup _ k3 (pn.nodup_iff.mpr one)) (fun k => by rw [pn.mem_iff, ← mem k]) ?_⟩
  · have z := old b u e
    have lt := Heap.lt_size z
    show (sortedHeap (s1.heap.push (seqObj "list" vs.toArray 0)) s1.heap.objs.size vs out.toArray).get? b = some u
    rw [sortedHeap_old (Nat.ne_of_lt lt) (by rw [size_push']; exact Nat.lt_succ_of_lt lt)]
    exact Heap.get?_push_of_some _ z
  · rw [pn.length_eq, List.length_map, Array.length_toList]; exact cnt
end
def rSortX (w : World) : List V → Hp → VK → Prop := fun vs H Q => ∃ (a : Addr) (S : Int → Bool) (n : Nat), vs = [V.ref a] ∧ H a = some (SetO w a S n) ∧ n ≤ 1000 ∧
  ∀ (ns : List Int) (p : Addr), ns.Pairwise (· < ·) → (∀ k : Int, k ∈ ns ↔ S k = true) → ns.length = n → H p = none → Q (.ref p) (upd H p (.lst (ns.map V.int)))
theorem cr_sortX {X : Cx} (hc : X.calm = true) : CallR X (.builtin "sorted") (rSortX X.w) := by
  intro pins s σ H vs us Q I r h
  obtain ⟨a, S, n, rfl, ha, few, q⟩ := h
  rw [Vals.ref1 r]
  refine set_in_order (setO_get I ha) (I.ok.hd hc) few fun s' p out c ns k g o hp hg hi hs hm hl => ?_
  have line : (ns.map V.int).length ≤ sizeLine := by rw [List.length_map, hl]; exact Nat.le_trans few (by decide)
  have np : H p = none := I.hok.fresh hp
  have J : Inv X pins σ (upd H p (.lst (ns.map V.int))) { s with heap := s'.heap, gens := s'.gens, drawn := s'.drawn, toks := s'.toks } :=
    I.call (ch := []) (Un.laid k hp np) (I.hok.laid k hp ⟨line, out.toList, c, vals_of_ints hi, hg⟩) (by rw [g]; exact I.bare) (fun _ z => nomatch z)
  have e : s' = { s with heap := s'.heap, gens := s'.gens, drawn := s'.drawn, toks := s'.toks } := by
    cases s'; cases s; cases o; rfl
  rw [e]
  exact ⟨.ref p, _, J, rfl, q ns p hs hm hl np⟩
end Mine
namespace Mine
open PySem PySem.Spec PyProof.Rows L2
open Evl (Ex)
theorem hu9 {A : Around} {k : Nat} (hr : Room k A) : A.units + 9 < cLine := by have := hr.units; omega
/-! comprehensions whose items are known -/
/-- what a comprehension asks behind its source -/
def lcR (g : TG) (tt : TT) (te : TE) (vs : List Nat) (σ : L2.St) (Q : VK) : It → Hp → Prop := fun J H1 => ∀ D, H1 D = none → ∃ W : Nat → Nat → Hp → Prop, (∃ m, W 0 m (upd H1 D (.lst []))) ∧ ∀ i m H, W i m H →
  (J.stop i H ∧ Q (.ref D) H) ∨ (J.go i H ∧ ∃ Nx : Hp → Prop, (∀ H', Nx H' → ∃ m', m' < m ∧ W (i + 1) m' H') ∧ ∀ x H', J.yld i H x H' → g x (wipe σ vs) H' fun σ2 H2 => wipe σ2 vs = wipe σ vs ∧ tt σ2 H2 fun b H3 =>
    if b = true then te σ2 H3 fun y H4 => ∃ acc, H4 D = some (.lst acc) ∧ acc.length < sizeLine ∧ Nx (upd H4 D (.lst (acc ++ [y]))) else Nx H3)
/-- one turn gives the item o (none: it is left out) -/
def turnR (g : TG) (tt : TT) (te : TE) (vs : List Nat) (σ : L2.St) (x : V) (o : Option V) (H1 : Hp) : Prop := ∀ H', Ex H1 H' → ∀ R : Option V → Hp → Prop, (∀ H'', Ex H' H'' → R o H'') →
  g x (wipe σ vs) H' fun σ2 H2 => wipe σ2 vs = wipe σ vs ∧ tt σ2 H2 fun b H3 => if b = true then te σ2 H3 fun y H4 => R (some y) H4 else R none H3
/-- the way a reading passes a weaker wish on -/
structure MonoLc (g : TG) (tt : TT) (te : TE) (vs : List Nat) (σ : L2.St) : Prop where
  up : ∀ (x : V) (H' : Hp) (R R' : Option V → Hp → Prop), (∀ o H, R o H → R' o H) → (g x (wipe σ vs) H' fun σ2 H2 => wipe σ2 vs = wipe σ vs ∧ tt σ2 H2 fun b H3 => if b = true then te σ2 H3 fun y H4 => R (some y) H4 else R none H3) →
    g x (wipe σ vs) H' fun σ2 H2 => wipe σ2 vs = wipe σ vs ∧ tt σ2 H2 fun b H3 => if b = true then te σ2 H3 fun y H4 => R' (some y) H4 else R' none H3
section
variable {g : TG} {tt : TT} {te : TE} {vs : List Nat} {σ : L2.St} {Q : VK} {H1 : Hp} {K : PySem.W.Frag} {wi : TI}
theorem k_lc {H : Hp} (q : wi σ H (lcR g tt te vs σ Q)) : tLc wi g tt te vs σ H Q := q
theorem turn_in {x : V} {o : Option V} {D : Addr} {acc : List V} {H : Hp} {Nx : Hp → Prop} (t : turnR g tt te vs σ x o H1) (e : Ex H1 H) (hD : H1 D = none) (a : H D = some (.lst acc)) (len : acc.length < sizeLine)
    (nx : ∀ H', Ex H1 H' → H' D = some (.lst (acc ++ o.toList)) → Nx H') :
    g x (wipe σ vs) H fun σ2 H2 => wipe σ2 vs = wipe σ vs ∧ tt σ2 H2 fun b H3 => if b = true then te σ2 H3 fun y H4 => ∃ acc, H4 D = some (.lst acc) ∧ acc.length < sizeLine ∧ Nx (upd H4 D (.lst (acc ++ [y]))) else Nx H3 := by
  refine t H e (fun o' H4 => match o' with | some y => ∃ acc, H4 D = some (.lst acc) ∧ acc.length < sizeLine ∧ Nx (upd H4 D (.lst (acc ++ [y]))) | none => Nx H4) fun H'' e2 => ?_
  cases o with
  | none => exact nx H'' (e.trans e2) (by rw [e2 _ _ a]; simp)
  | some y => exact ⟨acc, e2 _ _ a, len, nx _ (Evl.Ex.mut (e.trans e2) hD) upd_same⟩
theorem lcR_list {a : Addr} {xs : List V} (f : V → Option V) (hS : SqL K H1 a xs) (len : xs.length < sizeLine) (t : ∀ x ∈ xs, turnR g tt te vs σ x (f x) H1)
    (q : ∀ D H', H1 D = none → Ex H1 H' → H' D = some (.lst (xs.filterMap f)) → Q (.ref D) H') : lcR g tt te vs σ Q (Itl K a) H1 := by
  intro D hD
  refine lc_list (K := K) (a := a) (xs := xs) (fun i H => Ex H1 H ∧ H D = some (.lst ((xs.take i).filterMap f))) ⟨Evl.Ex.new hD, upd_same⟩ (fun i H _ p => Evl.ex_l p.1 hS) (fun i x H hx p => ?_) (fun H p => ?_)
  · refine turn_in (t x (List.mem_of_getElem? hx)) p.1 hD p.2 ?_ fun H' e h' => ⟨e, ?_⟩
    · refine Nat.lt_of_le_of_lt (Nat.le_trans (List.length_filterMap_le _ _) ?_) len
      rw [List.length_take]; omega
    · rw [h', List.take_add_one, hx, List.filterMap_append]
      cases h : f x <;> simp [h]
  · refine q D H hD p.1 ?_
    rw [p.2, List.take_of_length_le (Nat.le_refl _)]
theorem lcR_tup {a : Addr} {xs : List V} (f : V → Option V) (hS : SqT K H1 a xs) (len : xs.length < sizeLine) (t : ∀ x ∈ xs, turnR g tt te vs σ x (f x) H1)
    (q : ∀ D H', H1 D = none → Ex H1 H' → H' D = some (.lst (xs.filterMap f)) → Q (.ref D) H') : lcR g tt te vs σ Q (Itt K a) H1 := by
  intro D hD
  refine lc_tup (K := K) (a := a) (xs := xs) (fun i H => Ex H1 H ∧ H D = some (.lst ((xs.take i).filterMap f))) ⟨Evl.Ex.new hD, upd_same⟩ (fun i H _ p => Evl.ex_t p.1 hS) (fun i x H hx p => ?_) (fun H p => ?_)
  · refine turn_in (t x (List.mem_of_getElem? hx)) p.1 hD p.2 ?_ fun H' e h' => ⟨e, ?_⟩
    · refine Nat.lt_of_le_of_lt (Nat.le_trans (List.length_filterMap_le _ _) ?_) len
      rw [List.length_take]; omega
    · rw [h', List.take_add_one, hx, List.filterMap_append]
      cases h : f x <;> simp [h]
  · refine q D H hD p.1 ?_
    rw [p.2, List.take_of_length_le (Nat.le_refl _)]
theorem lcR_rng {n : Nat} (f : Nat → Option V) (len : n < sizeLine) (t : ∀ i, i < n → turnR g tt te vs σ (.int (i : Int)) (f i) H1)
    (q : ∀ D H', H1 D = none → Ex H1 H' → H' D = some (.lst ((List.range n).filterMap f)) → Q (.ref D) H') : lcR g tt te vs σ Q (Itr 0 n) H1 := by
  intro D hD
  refine lc_range (lo := 0) (n := n) (fun i H => Ex H1 H ∧ H D = some (.lst ((List.range i).filterMap f))) ⟨Evl.Ex.new hD, upd_same⟩ (fun i H hi p => ?_) (fun H p => q D H hD p.1 p.2)
  have e0 : (0 : Int) + (i : Int) = (i : Int) := Int.zero_add _
  rw [e0]
  refine turn_in (t i hi) p.1 hD p.2 ?_ fun H' e h' => ⟨e, ?_⟩
  · refine Nat.lt_of_le_of_lt (Nat.le_trans (List.length_filterMap_le _ _) ?_) (Nat.lt_trans hi len)
    rw [List.length_range]; exact Nat.le_refl i
  · rw [h', List.range_succ, List.filterMap_append]
    cases h : f i <;> simp [h]
/-- a turn of x where the item is plain -/
theorem turn_map {i : Nat} {x y : V} (h : ∀ H', Ex H1 H' → ∀ R : VK, R y H' → te ((wipe σ [i]).set i (some x)) H' R) (w : wipe ((wipe σ [i]).set i (some x)) [i] = wipe σ [i] := by rfl) : turnR (gName i) tYes te [i] σ x (some y) H1 :=
  fun H' e R r => ⟨w, h H' e (fun y H4 => R (some y) H4) (r H' (Evl.Ex.refl _))⟩
end
section
variable {X : Cx}
/-- tuple(xs), xs a list -/
def rTupL (K : PySem.W.Frag) : List V → Hp → VK → Prop := fun vs H Q => ∃ p ys, vs = [V.ref p] ∧ SqL K H p ys ∧ ∀ l, H l = none → Q (.ref l) (upd H l (.tup ys))
theorem cr_tupL : CallR X (.type "tuple") (rTupL X.K) := fun pins s σ H xs us Q I r h =>
  let ⟨p, ys, e, h1, q⟩ := h
  call_tuple_of pins s σ H xs us Q I r ⟨p, ys, e, Or.inl ⟨h1, q⟩⟩
end
section
variable {H : Hp} {Q : VK} {K : PySem.W.Frag}
theorem k_tsl {r : V → Option Int → Option Int → Hp → VK → Prop} {σ : L2.St} {te : TE} {tl th : TO} (q : te σ H fun x H1 => tl σ H1 fun l H2 => th σ H2 fun u H3 => r x l u H3 Q) : L2.tSl r te tl th σ H Q := q
theorem k_part {σ : L2.St} {t : TE} {R : Option Int → Hp → Prop} (q : t σ H fun x H1 => ∃ i, x = .int i ∧ R (some i) H1) : tPart t σ H R := q
theorem k_nopart {σ : L2.St} {R : Option Int → Hp → Prop} (q : R none H) : tNoPart σ H R := q
theorem k_exi {R : Int → Prop} {j : Int} (q : R j) : ∃ i, V.int j = V.int i ∧ R i := ⟨j, rfl, q⟩
theorem k_slL {a : Addr} {xs : List V} {lo hi : Option Int} (h : SqL K H a xs) (q : ∀ p, H p = none → Q (.ref p) (upd H p (.lst (cutV xs lo hi)))) : rSlL K (.ref a) lo hi H Q := ⟨a, xs, rfl, h, q⟩
theorem k_sfl {σ : L2.St} {D : Ends} {ta tv : TE} {f : Str} (q : tv σ H fun y H1 => ta σ H1 fun x H2 => ∃ a C dx fs, x = .ref a ∧ H2 a = some (.ins C dx fs) ∧ Cls K C ∧ NoAttr K C f ∧ fs.length < 1000 ∧ D.nx σ (upd H2 a (.ins C dx (putF f y fs)))) : sFld K ta tv f D σ H := q
theorem k_nnot {P : Program} {w : World} {σ : L2.St} {ty td : TE} (q : ty σ H fun y H1 => td σ H1 fun x H2 => ∃ a b kvs p, x = V.ref a ∧ y = V.ref b ∧ H2 a = some (NdO P w a kvs) ∧ Mine.Keys H2 kvs ∧ PrT H2 b p ∧ Q (.bl (!(look kvs p).isSome)) H2) : tNNot P w ty td σ H Q := q
theorem k_nget {P : Program} {w : World} {σ : L2.St} {ty td : TE} (q : td σ H fun x H1 => ty σ H1 fun y H2 => ∃ a b kvs p v, x = V.ref a ∧ y = V.ref b ∧ H2 a = some (NdO P w a kvs) ∧ Mine.Keys H2 kvs ∧ PrT H2 b p ∧ look kvs p = some v ∧ Q (.int v) H2) : tNGet P w td ty σ H Q := q
theorem k_nput {P : Program} {w : World} {σ : L2.St} {D : Ends} {ty td tv : TE} (q : tv σ H fun z H1 => td σ H1 fun x H2 => ty σ H2 fun y H3 => ∃ a b kvs p v, z = V.int v ∧ x = V.ref a ∧ y = V.ref b ∧ H3 a = some (NdO P w a kvs) ∧ Mine.Keys H3 kvs ∧ PrT H3 b p ∧ look kvs p = none ∧
  kvs.length < sizeLine ∧ D.nx σ (upd H3 a (NdO P w a (kvs ++ [(p, b, v)])))) : sNPut P w td ty tv D σ H := q
theorem k_dget {σ : L2.St} {ty td : TE} (q : td σ H fun x H1 => ty σ H1 fun y H2 => ∃ a v, x = V.ref a ∧ DGet H2 a y (some v) ∧ Q v H2) : tDGet td ty σ H Q := q
theorem k_din {σ : L2.St} {ty td : TE} (q : ty σ H fun y H1 => td σ H1 fun x H2 => ∃ a o, x = V.ref a ∧ DGet H2 a y o ∧ Q (.bl o.isSome) H2) : tDIn ty td σ H Q := q
theorem k_dnotin {σ : L2.St} {ty td : TE} (q : ty σ H fun y H1 => td σ H1 fun x H2 => ∃ a o, x = V.ref a ∧ DGet H2 a y o ∧ Q (.bl (!o.isSome)) H2) : tDNotIn ty td σ H Q := q
theorem k_dput {σ : L2.St} {D : Ends} {ty td tv : TE} (q : tv σ H fun v H1 => td σ H1 fun x H2 => ty σ H2 fun y H3 => ∃ a H4, x = V.ref a ∧ DPut H3 a y v H4 ∧ D.nx σ H4) : sDPut td ty tv D σ H := q
theorem k_rCatA {a b : Addr} {xs ys : List V} (h1 : SqT K H a xs) (h2 : SqT K H b ys) (l : xs.length + ys.length ≤ sizeLine) (q : ∀ p H', Ex H H' → SqT K H' p (xs ++ ys) → Q (.ref p) H') : rCatA K (.ref a) (.ref b) H Q :=
  ⟨a, b, xs, ys, rfl, rfl, h1, h2, l, fun e => q b H (Evl.Ex.refl H) (by rw [e]; exact h2), fun _ e => q a H (Evl.Ex.refl H) (by rw [e, List.append_nil]; exact h1), fun _ _ p n => q p _ (Evl.Ex.new n) (k_st upd_same)⟩
/-- what an item of ints is made into -/
def onI (f : Int → Int) : V → Option V := fun v => match v with | .int k => some (.int (f k)) | _ => none
theorem onI_map (f : Int → Int) (ns : List Int) : (ns.map V.int).filterMap (onI f) = (ns.map f).map V.int := by
  induction ns with
  | nil => rfl
  | cons x xs ih =>
    have e : onI f (V.int x) = some (V.int (f x)) := rfl
    rw [List.map_cons, List.filterMap_cons, e, ih]
    rfl
theorem hat_at {hs : List Int} {k : Int} {n : Nat} (l : hs.length = n) (h0 : 0 ≤ k) (h1 : k < n) : atI (hs.map V.int) k = some (V.int (hat hs k)) := by
  obtain ⟨z, hz, e⟩ := at_int (ns := hs) h0 (by omega)
  rw [e]
  unfold hat
  rw [List.getD_eq_getElem?_getD, hz]
  rfl
theorem k_rTupL {p : Addr} {ys : List V} (h : SqL K H p ys) (q : ∀ l, H l = none → Q (.ref l) (upd H l (.tup ys))) : rTupL K [.ref p] H Q := ⟨p, ys, rfl, h, q⟩
theorem k_rListL {p : Addr} {ys : List V} (h : SqL K H p ys) (q : ∀ l, H l = none → Q (.ref l) (upd H l (.lst ys))) : rListQ K [.ref p] H Q := ⟨p, ys, rfl, Or.inl h, q⟩
theorem k_rListT {p : Addr} {ys : List V} (h : SqT K H p ys) (q : ∀ l, H l = none → Q (.ref l) (upd H l (.lst ys))) : rListQ K [.ref p] H Q := ⟨p, ys, rfl, Or.inr h, q⟩
theorem k_rSetL {w : World} {p : Addr} {ns : List Int} (h : SqL K H p (ns.map V.int)) (b : ns.length ≤ 1000) (q : ∀ (p : Addr) (c : Nat), H p = none → c ≤ ns.length → Q (.ref p) (upd H p (SetO w p (fun j => decide (j ∈ ns)) c))) : rSetL K w [.ref p] H Q :=
  ⟨p, ns, rfl, h, Nat.lt_of_le_of_lt (Nat.succ_le_succ b) (by decide), q⟩
theorem k_rSorted {w : World} {a : Addr} {S : Int → Bool} {n : Nat} (h : H a = some (SetO w a S n)) (l : n ≤ 1000) (q : ∀ (ns : List Int) (p : Addr), ns.Pairwise (· < ·) → (∀ k : Int, k ∈ ns ↔ S k = true) → ns.length = n → H p = none → Q (.ref p) (upd H p (.lst (ns.map V.int)))) :
    rSortX w [.ref a] H Q := ⟨a, S, n, rfl, h, l, q⟩
theorem inV_ints (x : Int) : ∀ ns : List Int, inV (V.int x) (ns.map V.int) = decide (x ∈ ns)
  | [] => rfl
  | y :: ys => by
    show (eqV (V.int y) (V.int x) || inV (V.int x) (ys.map V.int)) = _
    rw [inV_ints x ys]
    have e1 : eqV (V.int y) (V.int x) = decide (x = y) := by
      by_cases h1 : x = y
      · subst h1; simp [eqV]
      · simp [eqV, h1, Ne.symm h1]
    rw [e1]
    by_cases h1 : x = y <;> simp [h1]
theorem k_in {neg : Bool} {x : Int} {p : Addr} {ns : List Int} (h : SqL K H p (ns.map V.int)) (q : Q (.bl (if neg then !decide (x ∈ ns) else decide (x ∈ ns))) H) : rIn K neg (.int x) (.ref p) H Q := by
  have f : (ns.map V.int).all flatV = true := by simp [flatV]
  exact ⟨p, _, rfl, Or.inl h, rfl, f, by rw [inV_ints]; exact q⟩
theorem k_rMaxL {a : Addr} {ns : List Int} (h : SqL K H a (ns.map V.int)) (l : 0 < ns.length) (q : ∀ m, m ∈ ns → (∀ y, y ∈ ns → y ≤ m) → Q (.int m) H) : rMax K [.ref a] H Q := ⟨a, ns, rfl, h, l, q⟩
theorem k_rCat {a b : Addr} {xs ys : List V} (h1 : H a = some (.lst xs)) (h2 : H b = some (.lst ys)) (l : xs.length + ys.length ≤ sizeLine) (q : ∀ p, H p = none → Q (.ref p) (upd H p (.lst (xs ++ ys)))) : rCat (.ref a) (.ref b) H Q := ⟨a, b, xs, ys, rfl, rfl, h1, h2, l, q⟩
end
end Mine
namespace Mine
open PySem PySem.Spec PyProof.Rows L2
open Evl (Ex)
/-! a law's own list of forms: refs to pairs of lists of ints -/
/-- all but the addresses of Z stays -/
def Keep (Z : Addr → Prop) (H H' : Hp) : Prop := ∀ c o, H c = some o → ¬ Z c → H' c = some o
theorem Keep.of {Z : Addr → Prop} {H H' : Hp} (e : Ex H H') : Keep Z H H' := fun c o h _ => e c o h
theorem Keep.trans {Z : Addr → Prop} {H H1 H2 : Hp} (a : Keep Z H H1) (b : Keep Z H1 H2) : Keep Z H H2 := fun c o h n => b c o (a c o h n) n
def FormAt (Z : Addr → Prop) (H : Hp) (a : Addr) (g : Pr) : Prop := ∃ c d, H a = some (.tup [.ref c, .ref d]) ∧ H c = some (.lst (g.1.map V.int)) ∧ H d = some (.lst (g.2.map V.int)) ∧ ¬ Z c ∧ ¬ Z d
def FormsAt (Z : Addr → Prop) (H : Hp) (xs : List V) (G : List Pr) : Prop := xs.length = G.length ∧ ∀ (i : Nat) (g : Pr), G[i]? = some g → ∃ a, xs[i]? = some (.ref a) ∧ FormAt Z H a g
def ModAt (Z : Addr → Prop) (H : Hp) (m : Addr) (G : List Pr) : Prop := ∃ xs, H m = some (.lst xs) ∧ FormsAt Z H xs G
theorem FormAt.keep {Z : Addr → Prop} {H H' : Hp} {a : Addr} {g : Pr} (f : FormAt Z H a g) (k : Keep Z H H') (t : ∀ c ys, H c = some (.tup ys) → H' c = some (.tup ys)) : FormAt Z H' a g :=
  let ⟨c, d, h1, h2, h3, z1, z2⟩ := f
  ⟨c, d, t _ _ h1, k _ _ h2 z1, k _ _ h3 z2, z1, z2⟩
theorem FormsAt.keep {Z : Addr → Prop} {H H' : Hp} {xs : List V} {G : List Pr} (f : FormsAt Z H xs G) (k : Keep Z H H') (t : ∀ c ys, H c = some (.tup ys) → H' c = some (.tup ys)) : FormsAt Z H' xs G :=
  ⟨f.1, fun i g h => let ⟨a, h1, h2⟩ := f.2 i g h; ⟨a, h1, h2.keep k t⟩⟩
theorem FormsAt.ex {Z : Addr → Prop} {H H' : Hp} {xs : List V} {G : List Pr} (f : FormsAt Z H xs G) (e : Ex H H') : FormsAt Z H' xs G := f.keep (Keep.of e) fun c ys h => e _ _ h
theorem ModAt.up {Z : Addr → Prop} {H H' : Hp} {m : Addr} {G : List Pr} (f : ModAt Z H m G) (e : Ex H H') : ModAt Z H' m G := let ⟨xs, h1, h2⟩ := f; ⟨xs, e _ _ h1, h2.ex e⟩
/-- data of a form -/
def formD (g : Pr) : PyData := .tuple [.list (g.1.map .int), .list (g.2.map .int)]
theorem dp_ints {K : PySem.W.Frag} {H : Hp} : ∀ ns : List Int, DpAll K H (ns.map V.int) (ns.map .int)
  | [] => .nil
  | x :: xs => .cons (.int x) (dp_ints xs)
theorem FormAt.dp {K : PySem.W.Frag} {Z : Addr → Prop} {H : Hp} {a : Addr} {g : Pr} (f : FormAt Z H a g) : Dp K H (.ref a) (formD g) :=
  let ⟨c, d, h1, h2, h3, _⟩ := f
  .tup (k_st h1) (.cons (.lst (k_sq h2) (dp_ints _)) (.cons (.lst (k_sq h3) (dp_ints _)) .nil))
theorem eqv_form (g h : Pr) : PyData.eqv (formD g) (formD h) = decide (g = h) := by
  unfold formD
  simp only [PyData.eqv, PyData.eqvAll, PySem.W.ked_eqvAll]
  obtain ⟨a, b⟩ := g
  obtain ⟨c, d⟩ := h
  by_cases h1 : a = c <;> by_cases h2 : b = d <;> simp [h1, h2]
theorem lay_ints : ∀ ns : List Int, PyData.canLayAll0 (ns.map .int) = true
  | [] => rfl
  | x :: xs => by
    simp only [List.map_cons, PyData.canLayAll0, PyData.canLay0, lay_ints xs]
    rfl
theorem deep_ints : ∀ ns : List Int, PyData.depthAll (ns.map .int) = 0
  | [] => by simp only [List.map_nil, PyData.depthAll]
  | x :: xs => by simp only [List.map_cons, PyData.depthAll, PyData.depth, deep_ints xs]; rfl
theorem shaped_form (g : Pr) : SeqAt.shaped (formD g) = true := by
  unfold formD SeqAt.shaped
  simp only [PyData.canLay0, PyData.depth, PyData.canLayAll0, PyData.depthAll, lay_ints, deep_ints]
  rfl
theorem shaped_ints (ns : List Int) : SeqAt.shaped (.list (ns.map .int)) = true := by
  unfold SeqAt.shaped
  simp only [PyData.canLay0, PyData.depth, lay_ints, deep_ints]
  rfl
theorem eqv_ints (a b : List Int) : PyData.eqv (.list (a.map .int)) (.list (b.map .int)) = decide (a = b) := by
  simp only [PyData.eqv, PySem.W.ked_eqvAll]
/-- a list of two lists of ints -/
def twoD (g : Pr) : PyData := .list [.list (g.1.map .int), .list (g.2.map .int)]
theorem eqv_two (g h : Pr) : PyData.eqv (twoD g) (twoD h) = decide (g = h) := by
  unfold twoD
  simp only [PyData.eqv, PyData.eqvAll, PySem.W.ked_eqvAll]
  obtain ⟨a, b⟩ := g
  obtain ⟨c, d⟩ := h
  by_cases h1 : a = c <;> by_cases h2 : b = d <;> simp [h1, h2]
theorem shaped_two (g : Pr) : SeqAt.shaped (twoD g) = true := by
  unfold twoD SeqAt.shaped
  simp only [PyData.canLay0, PyData.depth, PyData.canLayAll0, PyData.depthAll, lay_ints, deep_ints]
  rfl
section
variable {K : PySem.W.Frag} {H : Hp} {Q : VK}
theorem k_eqF {Z Z' : Addr → Prop} {a b : Addr} {g h : Pr} (f1 : FormAt Z H a g) (f2 : FormAt Z' H b h) (q : Q (.bl (decide (g = h))) H) : rEqD K (.ref a) (.ref b) H Q :=
  ⟨formD g, formD h, f1.dp, f2.dp, shaped_form g, shaped_form h, by rw [eqv_form]; exact q⟩
theorem k_eqIs {a b : Addr} {g h : List Int} (f1 : SqL K H a (g.map V.int)) (f2 : SqL K H b (h.map V.int)) (q : Q (.bl (decide (g = h))) H) : rEqD K (.ref a) (.ref b) H Q :=
  ⟨_, _, .lst f1 (dp_ints g), .lst f2 (dp_ints h), shaped_ints g, shaped_ints h, by rw [eqv_ints]; exact q⟩
theorem k_neTwo {a b c d e f : Addr} {g h : Pr} (f1 : SqL K H a [.ref c, .ref d]) (f2 : SqL K H b [.ref e, .ref f]) (hc : SqL K H c (g.1.map V.int)) (hd : SqL K H d (g.2.map V.int)) (he : SqL K H e (h.1.map V.int)) (hf : SqL K H f (h.2.map V.int))
    (q : Q (.bl (!decide (g = h))) H) : rNeD K (.ref a) (.ref b) H Q :=
  ⟨twoD g, twoD h, .lst f1 (.cons (.lst hc (dp_ints _)) (.cons (.lst hd (dp_ints _)) .nil)), .lst f2 (.cons (.lst he (dp_ints _)) (.cons (.lst hf (dp_ints _)) .nil)), shaped_two g, shaped_two h, by rw [eqv_two]; exact q⟩
end
section
variable {g : TG} {tt : TT} {te : TE} {vs : List Nat} {σ : L2.St} {Q : VK} {H1 : Hp} {K : PySem.W.Frag} {wi : TI}
theorem turn_flt {i : Nat} {x : V} {b : Bool} (h : ∀ H', Ex H1 H' → ∀ R : Bool → Hp → Prop, R b H' → tt ((wipe σ [i]).set i (some x)) H' R) (w : wipe ((wipe σ [i]).set i (some x)) [i] = wipe σ [i] := by rfl) (v : ((wipe σ [i]).set i (some x))[i]? = some (some x) := by rfl) :
    turnR (gName i) tt (tVar i) [i] σ x (if b = true then some x else none) H1 :=
  fun H' e R r => ⟨w, h H' e _ (by
    cases b
    · exact r H' (Evl.Ex.refl _)
    · exact ⟨x, v, r H' (Evl.Ex.refl _)⟩)⟩
/-- the members of a range that a test keeps -/
def kept (n : Nat) (p : Nat → Bool) : List Int := ((List.range n).filter p).map fun i : Nat => (i : Int)
theorem kept_map (n : Nat) (p : Nat → Bool) : (List.range n).filterMap (fun i => if p i = true then some (V.int (i : Int)) else none) = (kept n p).map V.int := by
  unfold kept
  induction (List.range n) with
  | nil => rfl
  | cons x xs ih =>
    rw [List.filterMap_cons, List.filter_cons]
    by_cases h : p x = true
    · rw [if_pos h, if_pos h, List.map_cons, List.map_cons, ← ih]
    · rw [if_neg h, if_neg h, ← ih]
theorem mem_kept {n : Nat} {p : Nat → Bool} {x : Int} : x ∈ kept n p ↔ ∃ i : Nat, x = i ∧ i < n ∧ p i = true := by
  unfold kept
  rw [List.mem_map]
  constructor
  · rintro ⟨i, h, rfl⟩
    rw [List.mem_filter, List.mem_range] at h
    exact ⟨i, rfl, h.1, h.2⟩
  · rintro ⟨i, rfl, h1, h2⟩
    exact ⟨i, by rw [List.mem_filter, List.mem_range]; exact ⟨h1, h2⟩, rfl⟩
theorem kept_asc (n : Nat) (p : Nat → Bool) : Asc n (kept n p) := by
  refine ⟨?_, fun x m => ?_⟩
  · unfold kept
    rw [List.pairwise_map]
    refine List.Pairwise.imp (fun h => Int.ofNat_lt.mpr h) (List.Pairwise.filter p ?_)
    first | exact List.pairwise_lt_range | exact List.pairwise_lt_range _
  · obtain ⟨i, rfl, h, _⟩ := mem_kept.mp m
    omega
theorem cut_ints (ls : List Int) (lo hi : Option Int) : ∃ l' : List Int, cutV (ls.map V.int) lo hi = l'.map V.int ∧ (∀ x ∈ l', x ∈ ls) ∧ l'.length ≤ ls.length := by
  unfold cutV
  refine ⟨(ls.drop _).take _, by rw [List.map_take, List.map_drop], fun x m => List.mem_of_mem_drop (List.mem_of_mem_take m), ?_⟩
  rw [List.length_take, List.length_drop]
  omega
theorem cut_last {ls : List Int} (h : ls ≠ []) : ∃ l' : List Int, cutV (ls.map V.int) (some (-3)) none = l'.map V.int ∧ (∀ x ∈ l', x ∈ ls) ∧ l' ≠ [] := by
  refine ⟨(ls.drop _).take _, by unfold cutV; rw [List.map_take, List.map_drop], fun x m => List.mem_of_mem_drop (List.mem_of_mem_take m), fun e => ?_⟩
  have hl : 0 < ls.length := List.length_pos_iff.mpr h
  have z := congrArg List.length e
  rw [List.length_take, List.length_drop, List.length_map, HT.sIx_none] at z
  have s : HT.sIx ls.length 0 (some (-3)) = (-3 + (ls.length : Int)).toNat := by
    show (if (-3 : Int) < 0 then (-3 + (ls.length : Int)).toNat else min (-3 : Int).toNat ls.length) = _
    rw [if_pos (by decide)]
  rw [s, List.length_nil] at z
  omega
theorem rng_map (n : Nat) (f : Nat → Int) : (List.range n).filterMap (fun i => some (V.int (f i))) = ((List.range n).map f).map V.int := by
  induction (List.range n) with
  | nil => rfl
  | cons x xs ih => rw [List.filterMap_cons, List.map_cons, List.map_cons, ← ih]
theorem atI_in {ls : List Int} {k : Int} (h0 : 0 ≤ k) (h1 : k < ls.length) : ∃ z, z ∈ ls ∧ atI (ls.map V.int) k = some (.int z) ∧ z = ls.getD k.toNat 0 := by
  obtain ⟨z, hz, e⟩ := at_int h0 h1
  exact ⟨z, List.mem_of_getElem? hz, e, by rw [List.getD_eq_getElem?_getD, hz]; rfl⟩
end
theorem dg_of {ds : List Int} (hd : ∀ d ∈ ds, 0 ≤ d ∧ d < 60) {k : Int} (h0 : 0 ≤ k) (hk : k < ds.length) : ∃ z, atI (ds.map V.int) k = some (.int z) ∧ (0 ≤ z ∧ z < 60) ∧ z = ds.getD k.toNat 0 := by
  obtain ⟨z, m, e, f⟩ := atI_in h0 hk
  exact ⟨z, e, hd z m, f⟩
/-- the height that a law reckons of a new game -/
def HgtL (G : List Pr) (hs : List Int) (p : Pr) (hs' : List Int) : Prop := (p ∈ G ∧ hs' = hs) ∨ (p ∉ G ∧ ∃ m, hs' = hs ++ [m] ∧ m ∈ (0 :: (p.1 ++ p.2).map fun k => 1 + hat hs k) ∧ ∀ y ∈ (0 :: (p.1 ++ p.2).map fun k => 1 + hat hs k), y ≤ m)
section
variable {P : Program} {w : World} {K : PySem.W.Frag} {H H' : Hp} {F : Foot} {G : List Pr} {hs : List Int} {ts : List (Key × V)}
theorem k_if2 {b : Bool} {x y : V} {σ : L2.St} {Q : VK} (q : ∀ v, v = x ∨ v = y → Q v H) : if b = true then tC x σ H Q else tC y σ H Q := by
  cases b
  · exact q y (Or.inr rfl)
  · exact q x (Or.inl rfl)
theorem k_revL {te : TE} {σ : L2.St} {Q : VK} (q : te σ H fun x H1 => ∃ a xs, x = .ref a ∧ SqL K H1 a xs ∧ ∀ p, H1 p = none → Q (.ref p) (upd H1 p (.lst xs.reverse))) : tRevL K te σ H Q := q
theorem sql_keep {Z : Addr → Prop} {a : Addr} {xs : List V} (h : SqL K H a xs) (k : Keep Z H H') (z : ∀ o, H a = some o → ¬ Z a) : SqL K H' a xs := by
  rcases h with (h | ⟨o, h⟩) | h
  · exact Or.inl (Or.inl (k _ _ h (z _ h)))
  · exact Or.inl (Or.inr ⟨o, k _ _ h (z _ h)⟩)
  · exact Or.inr h
/-- one list, not the yard's, is changed -/
theorem YardAt.but (Y : YardAt P w K H F G hs ts) {p : Addr} {ys : List V} (hp : H p = some (.lst ys)) (off : Off F p) (k : ∀ c o, H c = some o → c ≠ p → H' c = some o) : YardAt P w K H' F G hs ts := by
  obtain ⟨o1, o2, o3, o4, o5⟩ := off
  have t : ∀ c zs, H c = some (.tup zs) → H' c = some (.tup zs) := fun c zs z => k _ _ z (ne_of z hp (by intro y; cases y))
  exact ⟨k _ _ Y.ins (ne_of Y.ins hp (by intro y; cases y)), let ⟨xs, h1, h2⟩ := Y.ls; ⟨xs, k _ _ h1 o1.symm, h2.ex t⟩, let ⟨xs, h1, h2⟩ := Y.rs; ⟨xs, k _ _ h1 o2.symm, h2.ex t⟩, ⟨k _ _ Y.hs.1 o3.symm, Y.hs.2⟩,
    let ⟨kvs, h1, h2, h3⟩ := Y.ns; ⟨kvs, k _ _ h1 o4.symm, fun x m => (h2 x m).ex t, h3⟩, k _ _ Y.ts o5.symm, Y.ne, Y.ht, Y.G⟩
end
/-- 0, 1, .. below n -/
def nums (n : Nat) : List Int := (List.range n).map fun i : Nat => (i : Int)
theorem nums_len (n : Nat) : (nums n).length = n := by unfold nums; rw [List.length_map, List.length_range]
theorem nums_at {n : Nat} {k : Int} (h0 : 0 ≤ k) (h1 : k < n) : atI ((nums n).map V.int) k = some (V.int k) := by
  obtain ⟨z, hz, e⟩ := at_int (ns := nums n) h0 (by rw [nums_len]; exact h1)
  rw [e]
  unfold nums at hz
  rw [List.getElem?_map, List.getElem?_range (by omega)] at hz
  have hz : ((k.toNat : Nat) : Int) = z := Option.some.inj hz
  rw [← hz, show ((k.toNat : Nat) : Int) = k by omega]
theorem nums_succ (n : Nat) : nums (n + 1) = nums n ++ [(n : Int)] := by unfold nums; rw [List.range_succ, List.map_append]; rfl
theorem mem_nums {n : Nat} {k : Int} : k ∈ nums n ↔ 0 ≤ k ∧ k < n := by
  unfold nums
  rw [List.mem_map]
  constructor
  · rintro ⟨i, m, rfl⟩
    have := List.mem_range.mp m
    omega
  · rintro ⟨h0, h1⟩
    exact ⟨k.toNat, List.mem_range.mpr (by omega), by omega⟩
theorem onI_id (ns : List Int) : (ns.map V.int).filterMap (onI fun k => k) = ns.map V.int := by rw [onI_map, List.map_id']
theorem sorted_asc {l l' : List Int} (p : l'.Perm l) (le : l'.Pairwise (· ≤ ·)) (a : l.Pairwise (· < ·)) : l' = l := by
  have nd : l'.Nodup := p.nodup_iff.mpr (List.Pairwise.imp (fun h => Int.ne_of_lt h) a)
  exact asc_ext (lt_of_le_nodup l' le nd) a fun k => p.mem_iff
theorem k_sortA {K : PySem.W.Frag} {H : Hp} {Q : VK} {a : Addr} {ns : List Int} (h : SqL K H a (ns.map V.int)) (asc : ns.Pairwise (· < ·)) (q : ∀ p, H p = none → Q (.ref p) (upd H p (.lst (ns.map V.int)))) : rSortedI K [.ref a] H Q :=
  ⟨a, ns, rfl, h, fun ns' p pm le n => by rw [sorted_asc pm le asc]; exact q p n⟩
theorem nums_asc (n : Nat) : Asc n (nums n) := by
  refine ⟨?_, fun x m => mem_nums.mp m⟩
  unfold nums
  rw [List.pairwise_map]
  refine List.Pairwise.imp (fun h => Int.ofNat_lt.mpr h) ?_
  first | exact List.pairwise_lt_range | exact List.pairwise_lt_range _
theorem isHt_one {hs : List Int} {g : Pr} {h h' : Int} (a : IsHt hs g h) (b : IsHt hs g h') : h = h' := by
  rcases a with ⟨e, rfl⟩ | ⟨m, mm, ml, rfl⟩
  · rcases b with ⟨_, rfl⟩ | ⟨m', mm', _⟩
    · rfl
    · rw [e] at mm'; simp at mm'
  · rcases b with ⟨e, _⟩ | ⟨m', mm', ml', rfl⟩
    · rw [e] at mm; simp at mm
    · have h1 := ml m' mm'
      have h2 := ml' m mm
      omega
theorem ht_same {G G' : List Pr} {hs hs' : List Int} (o : HtOk G hs) (o' : HtOk G' hs') (sub : ∀ (i : Nat) (g : Pr), G[i]? = some g → G'[i]? = some g) (f : Forms G) : ∀ (n i : Nat), i < n → i < G.length → hat hs i = hat hs' i := by
  intro n
  induction n with
  | zero => intro i h; exact absurd h (Nat.not_lt_zero _)
  | succ n ih =>
    intro i hi hl
    have hg := List.getElem?_eq_getElem hl
    have a := o i _ hg
    have b := o' i _ (sub i _ hg)
    obtain ⟨a1, a2⟩ := f.asc i _ hg
    have e : (G[i].1 ++ G[i].2).map (hat hs) = (G[i].1 ++ G[i].2).map (hat hs') := by
      refine List.map_congr_left fun k m => ?_
      have bk := Asc.both a1 a2 k m
      have := ih k.toNat (by omega) (by omega)
      rw [show ((k.toNat : Nat) : Int) = k by omega] at this
      exact this
    unfold IsHt at b
    rw [← e] at b
    exact isHt_one a b
theorem nodup_le : ∀ (l m : List Int), l.Nodup → (∀ x ∈ l, x ∈ m) → l.length ≤ m.length
  | [], _, _, _ => Nat.zero_le _
  | x :: l, m, n, s => by
    obtain ⟨n1, n2⟩ := List.nodup_cons.mp n
    have hx := s x List.mem_cons_self
    have h := nodup_le l (m.erase x) n2 fun y my => (List.mem_erase_of_ne (fun (e : y = x) => n1 (e ▸ my))).mpr (s y (List.mem_cons_of_mem _ my))
    rw [List.length_erase_of_mem hx] at h
    have := List.length_pos_of_mem hx
    rw [List.length_cons]
    omega
/-- who is reached from k past none of the done -/
inductive Rch (G : List Pr) (dk : Int → Bool) (k : Int) : Int → Prop
  | root : dk k = false → Rch G dk k k
  | step {i j : Int} {g : Pr} : Rch G dk k i → G[i.toNat]? = some g → j ∈ g.1 ++ g.2 → dk j = false → Rch G dk k j
def dkey (kvs : List (Key × V)) : Int → Bool := fun j => (valV kvs (Sum.inl j)).isSome
theorem Rch.bound {G : List Pr} {dk : Int → Bool} {k j : Int} (f : Forms G) (h0 : 0 ≤ k ∧ k < G.length) (r : Rch G dk k j) : 0 ≤ j ∧ j ≤ k := by
  induction r with
  | root _ => exact ⟨h0.1, Int.le_refl _⟩
  | @step i j g r hg m _ ih =>
    obtain ⟨a1, a2⟩ := f.asc _ _ hg
    have := Asc.both a1 a2 _ m
    omega
end Mine
namespace Mine
open PySem PySem.Spec PyProof.Rows L2
open PySem.AutoSeq1
/-! enumerate(a tuple) -/
set_option maxHeartbeats 1600000 in
theorem meets_enum1 {v : Value} {o : Obj} {G : Heap → Prop} (B : Begins v o G) :
    Meets (Builtin.«enumerate.__new__» ⟨[.type "enumerate", v], []⟩) (fun _ R s => G s.heap ∧
      R (.ok (.ret (.ref (s.heap.push o).objs.size))) { s with heap := (s.heap.push o).push { cls := .type "enumerate", data := .fields #[.none, .bool false, .ref s.heap.objs.size, rawInt 0, .none, .none] } }) :=
  .of_wp fun prog w A R s h => by
    obtain ⟨hp, g, d, tk, os⟩ := s
    obtain ⟨h1, h⟩ := h
    have sub := sub_enumerate
    have begins : ∀ {A' : Around} {E : Value → Shared → Prop} {Q : Value → Shared → Prop}, Q (.ref hp.objs.size) ⟨hp.push o, g, d, tk, os⟩ → wpAny (model prog w) A' (pyIter v) Q E ⟨hp, g, d, tk, os⟩ :=
      fun q => B.iter prog w _ _ ⟨hp, g, d, tk, os⟩ _ h1 q
    wp_walk using begins
    refine wpAny_stack_any fun st => wpAny_pure ?_
    split
    · rename_i c _ _ _ _ _
      cases (c == Value.type "enumerate")
      · wp_walk using begins
        exact ⟨_, rfl, h⟩
      · wp_walk using begins
        exact ⟨_, rfl, h⟩
    · wp_walk using begins
      exact ⟨_, rfl, h⟩
section
variable {prog : Program} {w : World} {A : Around} {E : Value → Shared → Prop} {s : Shared}
theorem enum1_begins {v : Value} {o : Obj} {G : Heap → Prop} {Q : Value → Shared → Prop} (B : Begins v o G) (h1 : G s.heap)
    (q : ∀ h', IsEnum h' (s.heap.objs.size + 1) s.heap.objs.size 0 .none → h'.get? s.heap.objs.size = some o → (∀ b u, s.heap.get? b = some u → h'.get? b = some u) → Q (.ref (s.heap.objs.size + 1)) { s with heap := h' }) :
    wpAny (model prog w) A (call (.type "enumerate") [v]) Q E s := by
  refine callType_new F.called_enumerate (by decide) (F.typeCall_enumerate_1 _) (F.newCall_enumerate_1 _) (fun obj => F.args_object_init_2 obj _) F.entry_enumerate_new (meets_enum1 B) ⟨h1, ?_⟩
  have z : (s.heap.push o).objs.size = s.heap.objs.size + 1 := Heap.size_push ..
  show _ ∧ _
  rw [z]
  have he : IsEnum ((s.heap.push o).push { cls := .type "enumerate", data := .fields #[.none, .bool false, .ref s.heap.objs.size, rawInt 0, .none, .none] }) (s.heap.objs.size + 1) s.heap.objs.size 0 .none := by
    have t := Heap.get?_push_size (s.heap.push o) (o := { cls := .type "enumerate", data := .fields #[.none, .bool false, .ref s.heap.objs.size, rawInt 0, .none, .none] }) rfl
    rw [z] at t; exact t
  exact ⟨⟨_, he, rfl⟩, q _ he (Heap.get?_push_of_some _ (Heap.get?_push_size _ B.free)) fun b u x => Heap.get?_push_of_some _ (Heap.get?_push_of_some _ x)⟩
end
/-- the tuple at a, each item in a new pair with its place -/
def IteT (K : PySem.W.Frag) (a : Addr) : It :=
  ⟨fun i H => ∃ (xs : List V) (x : V), SqT K H a xs ∧ xs[i]? = some x, fun i H v H' => ∃ T x, v = .ref T ∧ H T = none ∧ H' = upd H T (.tup [.int (i : Nat), x]) ∧ ∀ xs, SqT K H a xs → xs[i]? = some x, fun i H => ∃ xs : List V, SqT K H a xs ∧ xs.length ≤ i⟩
theorem turn_enumT {P : Program} {w : World} {K : PySem.W.Frag} {elts : List Expr} {kk : Nat} {tpos : Pos} (a e it : Addr) :
    Turn P w K (.Tuple elts kk tpos) (IteT K a) [e, it] e (fun i h => (∃ old, IsEnum h e it ((i : Nat) : Int) old) ∧ h.IsTupleIter it a i ∧ e ≠ it ∧ a ≠ it ∧ e ≠ a) where
  mem := by simp
  obj := fun i h st b hb => by
    obtain ⟨⟨old, he⟩, ⟨o, ho, hc, hd⟩, _⟩ := st
    rcases (show b = e ∨ b = it by simpa using hb) with z | z
    · rw [z]; exact ⟨_, he, fun v q => nomatch q⟩
    · rw [z]; exact ⟨o, ho, fun v q => by rw [hd] at q; cases q⟩
  keep := fun i h h' st k => let ⟨⟨old, he⟩, hi, hne⟩ := st; ⟨⟨old, k e (by simp) _ he⟩, hi.at fun o q => k it (by simp) o q, hne⟩
  item := by
    intro X hP hw hK hc i pins s σ H E I hf st hg
    subst hP hw hK
    obtain ⟨⟨old, he⟩, hit, hne, hat, hea⟩ := st
    obtain ⟨xs, x, hq, hx⟩ := hg
    obtain ⟨its, rv, p, hz⟩ := I.tuple hq
    have len := rv.length
    have hi : i < its.length := by have := (List.getElem?_eq_some_iff.mp hx).1; omega
    have hel : e < s.heap.objs.size := Heap.lt_size he
    have hil : it < s.heap.objs.size := by obtain ⟨_, q, _⟩ := hit; exact Heap.lt_size q
    have D := Draws.tuple (prog := X.prog) (w := X.w) (A := X.A.in1) (I.ok.hd hc) it a hat its.toArray
    refine wpAny_pyNext_enum_itemC D he ⟨hit, p⟩ (by simpa using hi) hne (by simp [hne, hea]) fun y h' tk hy ho st' hT hsz hk => ?_
    refine ⟨_, rfl, wpAny_letOwnedTupleGo_enum (s := { s with heap := h', toks := tk + 1 }) ho fun h'' he' sb => ?_⟩
    have hT2 : h''.get? s.heap.objs.size = some { cls := .type "tuple", data := .seq #[.int i tk, y] } := (sb.2 _ (Nat.ne_of_gt hel)).trans hT
    obtain ⟨u, hu, ru⟩ := rv.get hx
    have ey : y = u := by
      have z : its[i]? = some y := by simpa using hy
      rw [hu] at z
      exact (Option.some.inj z).symm
    subst ey
    have new : ObjOk X.prog X.w (upd H s.heap.objs.size (.tup [.int (i : Nat), x])) h'' s.heap.objs.size (.tup [.int (i : Nat), x]) :=
      ⟨by show 2 ≤ sizeLine; decide, [.int i tk, y], .cons ⟨_, rfl⟩ (.cons ru .nil), ⟨_, hT2, rfl, _, rfl⟩⟩
    have I1 : Inv X pins σ (upd H s.heap.objs.size (.tup [.int (i : Nat), x])) { s with heap := h'', toks := tk + 1 } :=
      I.turnedNew (ch := [e, it]) (fun b ob hb q => (sb.2 b (fun z => hb (by simp [z]))).trans (hk b ob (fun z => hb (by simp [z])) (fun z => hb (by simp [z])) q)) hf (Nat.le_refl _) new
    refine ⟨.ref s.heap.objs.size, _, I1, rfl, ⟨_, x, rfl, I.hok.fresh (Nat.le_refl _), rfl, fun ys hy => by rw [I.tuple_inj hy hq]; exact hx⟩, ⟨⟨y, ?_⟩, st'.1.at fun o q => (sb.2 it (Ne.symm hne)).trans q, hne, hat, hea⟩, fun b hb => ?_⟩
    · have e1 : ((i + 1 : Nat) : Int) = (i : Int) + 1 := by omega
      rw [e1]; exact he'
    · have hb' : b < s.heap.objs.size := by
        rcases (show b = e ∨ b = it by simpa using hb) with z | z
        · rw [z]; exact hel
        · rw [z]; exact hil
      rw [upd_ne (Nat.ne_of_lt hb')]
      exact (hf b hb).1
  done := by
    intro X hP hw hK hc i pins s σ H E I hf st hg
    subst hP hw hK
    obtain ⟨⟨old, he⟩, hit, hne, hat, hea⟩ := st
    obtain ⟨xs, hq, hx⟩ := hg
    obtain ⟨its, rv, p, hz⟩ := I.tuple hq
    obtain ⟨f0, f1, f2, f3, f4, f5⟩ := hf it (by simp)
    have len := rv.length
    have D : Draws X.prog X.w X.A.in1 it [it, a] i (fun _ _ => True) (fun j h => j = i ∧ h.IsTupleIter it a i ∧ h.IsTuple a its.toArray) :=
      { live := fun _ _ st => let ⟨o, ho, _⟩ := st.2.1; ⟨o, ho⟩
        frame := fun _ _ _ st hk => ⟨st.1, st.2.1.at fun o e => hk it (by simp) o e, st.2.2.at fun o e => hk a (by simp) o e⟩
        item := fun j s Q E hj st _ => absurd st.1 (Nat.ne_of_lt hj)
        done := fun s Q E st hE => wpAny_nextOf_tuple_end (I.ok.hd hc) st.2.1 st.2.2 (by simp; omega) hE }
    exact wpAny_pyNext_enum_endD D he ⟨rfl, hit, p⟩ fun h' eb => ⟨rfl, I.turned (t' := s.toks) (fun b o hb q => eb b o hb q) f0 f1 f3 f4 f5⟩
  self := fun A i s Q E st h => let ⟨⟨_, he⟩, _⟩ := st; wpAny_pyIter_enum he h
def iEnumT (K : PySem.W.Frag) (ta : TA) : TI := fun σ H R => ta σ H fun vs H1 => ∃ a xs, vs = [.ref a] ∧ SqT K H1 a xs ∧ R (IteT K a) H1
theorem pi_enumT {X : Cx} {e : Expr} {ta : TA} {p pos tpos : Pos} {elts : List Expr} {kk : Nat} (hg : Gl X "enumerate") (hm : X.mg "enumerate" = none) (ha : PA X [e] ta) (hs : starEach [e] X.env = [(false, eval e X.env)] := by rfl) :
    PI X (.Tuple elts kk tpos) (.Call (.Name "enumerate" p) [e] [] pos) (iEnumT X.K ta) := by
  constructor
  intro pins s σ H R I h
  refine Call_ (ld_blt I hg hm boot_enumerate (PyProof.Rows.callWith_type1 (thn (ha.run pos pins s σ H _ I h) ?_) hs rfl))
  rintro us s1 ⟨vs, H1, I1, r1, a, xs, rfl, hq, q⟩
  cases r1 with
  | cons r rr =>
    cases rr
    cases r
    obtain ⟨its, rv, tu, hz⟩ := I1.tuple hq
    have al : a < s1.heap.objs.size := by obtain ⟨o, e, _⟩ := tu; exact Heap.lt_size e
    refine enum1_begins (begins_tuple a its.toArray) tu fun h' he hit hk => wpAny_pyIter_enum he ?_
    have I2 : Inv X pins σ H1 { s1 with heap := h' } := I1.kept (t' := s1.toks) hk
    refine ⟨s1.heap.objs.size + 1, [s1.heap.objs.size + 1, s1.heap.objs.size], _, _, H1, rfl, I2, turn_enumT a (s1.heap.objs.size + 1) s1.heap.objs.size, ⟨⟨.none, he⟩, ⟨_, hit, rfl, rfl⟩, Nat.succ_ne_self _, Nat.ne_of_lt al, (Nat.ne_of_lt (Nat.lt_succ_of_lt al)).symm⟩, fun b hb => ?_, q⟩
    have hle : s1.heap.objs.size ≤ b := by
      rcases (show b = s1.heap.objs.size + 1 ∨ b = s1.heap.objs.size by simpa using hb) with z | z
      · rw [z]; exact Nat.le_add_right _ _
      · rw [z]; exact Nat.le_refl _
    exact I1.fpOk hle (I1.hok.fresh hle)
theorem for_enumT {g : TG} {tb : TS} {D : Ends} {σ : L2.St} {H : Hp} {K : PySem.W.Frag} {a : Addr} {xs : List V} (Pv : Nat → L2.St → Hp → Prop) (h0 : Pv 0 σ H) (hl : ∀ i σ' H', i ≤ xs.length → Pv i σ' H' → SqT K H' a xs)
    (hs : ∀ i x σ' H' T, xs[i]? = some x → Pv i σ' H' → H' T = none → g (.ref T) σ' (upd H' T (.tup [.int (i : Nat), x])) fun σ2 H2 => tb { D with nx := Pv (i + 1), ct := Pv (i + 1), bk := D.nx } σ2 H2) (hd : ∀ σ' H', Pv xs.length σ' H' → D.nx σ' H') : forK g tb D σ (IteT K a) H := by
  refine ⟨fun i m σ H => i ≤ xs.length ∧ m = xs.length - i ∧ Pv i σ H, ⟨xs.length, Nat.zero_le _, by omega, h0⟩, ?_⟩
  rintro i m σ H ⟨hi, rfl, p⟩
  have hq := hl i σ H hi p
  rcases Nat.lt_or_ge i xs.length with h | h
  · refine Or.inr ⟨⟨xs, xs[i], hq, List.getElem?_eq_getElem h⟩, Pv (i + 1), fun σ' H' p' => ⟨xs.length - (i + 1), by omega, by omega, rfl, p'⟩, ?_⟩
    rintro v H' ⟨T, x, rfl, hT, rfl, hx⟩
    exact hs i x σ H T (hx xs hq) p hT
  · have e : i = xs.length := by omega
    subst e
    exact Or.inl ⟨⟨xs, hq, Nat.le_refl _⟩, hd σ H p⟩
end Mine
namespace Mine
open PySem PySem.Spec PyProof.Rows L2
open Evl (Ex)
structure FHeaps (K : PySem.W.Frag) : Prop where
  cl : Cls K (He.ga K "Heaps")
  na : NoAttr K (He.ga K "Heaps") "_sizes"
def hfs (t : Addr) : List (Str × V) := putF "_sizes" (.ref t) []
theorem hfs_get (t : Addr) : (hfs t).lookup ("_sizes" : Str) = some (.ref t) := by
  unfold hfs
  rw [lookup_putF, if_pos rfl]
theorem hfs_no (t : Addr) {m : Str} (h : ¬ m = "_sizes") : (hfs t).lookup m = none := by
  unfold hfs
  rw [lookup_putF, if_neg h]
  rfl
/-- a board of heaps -/
def HpAt (K : PySem.W.Frag) (H : Hp) (b : Addr) (ns : List Int) : Prop := ∃ dx t, H b = some (.ins (He.ga K "Heaps") dx (hfs t)) ∧ H t = some (.tup (ns.map V.int))
theorem HpAt.ex {K : PySem.W.Frag} {H H' : Hp} {b : Addr} {ns : List Int} (h : HpAt K H b ns) (e : Ex H H') : HpAt K H' b ns := let ⟨dx, t, h1, h2⟩ := h; ⟨dx, t, e _ _ h1, e _ _ h2⟩
def OkS (ns : List Int) : Prop := ns.length ≤ 8 ∧ ∀ z ∈ ns, 0 ≤ z ∧ z ≤ 30
end Mine
namespace Mine
open PySem PySem.Spec PyProof.Rows L2
open Evl (Ex)
/-- the sizes behind the moves, in order -/
def mvAt (ns : List Int) (i : Nat) : List (List Int) := (List.range (ns.getD i 0).toNat).map fun (j : Nat) => ns.take i ++ [(ns.getD i 0) - 1 - (j : Int)] ++ ns.drop (i + 1)
def mvs (ns : List Int) : List (List Int) := (List.range ns.length).flatMap (mvAt ns)
/-- boards of heaps of these sizes -/
def BsAt (K : PySem.W.Frag) (H : Hp) (xs : List V) (ss : List (List Int)) : Prop := xs.length = ss.length ∧ ∀ (i : Nat) (s : List Int), ss[i]? = some s → ∃ b, xs[i]? = some (.ref b) ∧ HpAt K H b s
theorem BsAt.ex {K : PySem.W.Frag} {H H' : Hp} {xs : List V} {ss : List (List Int)} (h : BsAt K H xs ss) (e : Ex H H') : BsAt K H' xs ss := ⟨h.1, fun i s q => let ⟨b, h1, h2⟩ := h.2 i s q; ⟨b, h1, h2.ex e⟩⟩
theorem BsAt.keep {K : PySem.W.Frag} {H H' : Hp} {xs : List V} {ss : List (List Int)} (h : BsAt K H xs ss) (k : ∀ c o, H c = some o → (∀ ys, o ≠ .lst ys) → H' c = some o) : BsAt K H' xs ss :=
  ⟨h.1, fun i s q => let ⟨b, h1, dx, t, h2, h3⟩ := h.2 i s q; ⟨b, h1, dx, t, k _ _ h2 (fun ys z => by cases z), k _ _ h3 (fun ys z => by cases z)⟩⟩
theorem BsAt.snoc {K : PySem.W.Frag} {H : Hp} {xs : List V} {ss : List (List Int)} {b : Addr} {s : List Int} (h : BsAt K H xs ss) (hb : HpAt K H b s) : BsAt K H (xs ++ [.ref b]) (ss ++ [s]) := by
  refine ⟨by rw [List.length_append, List.length_append, h.1]; rfl, fun i s' q => ?_⟩
  rcases Nat.lt_or_ge i ss.length with l | l
  · rw [List.getElem?_append_left l] at q
    obtain ⟨b', h1, h2⟩ := h.2 i s' q
    exact ⟨b', by rw [List.getElem?_append_left (by rw [h.1]; exact l)]; exact h1, h2⟩
  · have l2 := (List.getElem?_eq_some_iff.mp q).1
    rw [List.length_append, List.length_singleton] at l2
    have e : i = ss.length := by omega
    subst e
    rw [List.getElem?_append_right (Nat.le_refl _), Nat.sub_self] at q
    have e2 : s = s' := by injection q
    subst e2
    exact ⟨b, by rw [← h.1, List.getElem?_append_right (Nat.le_refl _), Nat.sub_self]; rfl, hb⟩
theorem okS_mv {ns : List Int} (ok : OkS ns) {i : Nat} (hi : i < ns.length) {j : Nat} (hj : j < (ns.getD i 0).toNat) : OkS (ns.take i ++ [(ns.getD i 0) - 1 - (j : Int)] ++ ns.drop (i + 1)) := by
  have hz : ns.getD i 0 ∈ ns := by
    rw [List.getD_eq_getElem?_getD, List.getElem?_eq_getElem hi]
    exact List.getElem_mem hi
  have bz := ok.2 _ hz
  refine ⟨?_, fun z m => ?_⟩
  · have := ok.1
    rw [List.length_append, List.length_append, List.length_take, List.length_drop, List.length_singleton]
    omega
  · rcases List.mem_append.mp m with m | m
    · rcases List.mem_append.mp m with m | m
      · exact ok.2 z (List.mem_of_mem_take m)
      · rw [List.mem_singleton.mp m]; omega
    · exact ok.2 z (List.mem_of_mem_drop m)
end Mine
namespace Mine
open PySem PySem.Spec PyProof.Rows L2
section
variable {σ : L2.St} {H : Hp} {K : PySem.W.Frag}
theorem k_star {te : TE} {t : TA} {Q : List V → Hp → Prop} (q : te σ H fun y H1 => ∃ a xs, y = V.ref a ∧ (SqT K H1 a xs ∨ SqL K H1 a xs) ∧ t σ H1 fun vs H2 => Q (xs ++ vs) H2) : StX.tStar K te t σ H Q := q
theorem k_enumT {ta : TA} {R : It → Hp → Prop} (q : ta σ H fun vs H1 => ∃ a xs, vs = [.ref a] ∧ SqT K H1 a xs ∧ R (IteT K a) H1) : iEnumT K ta σ H R := q
end
end Mine
namespace Mine
open PySem PySem.Spec PyProof.Rows L2
open Evl (Ex)
theorem k_slA {K : PySem.W.Frag} {H : Hp} {Q : VK} {a : Addr} {xs : List V} {lo hi : Option Int} (h : SqT K H a xs) (q : ∀ p H', Ex H H' → SqT K H' p (cutV xs lo hi) → Q (.ref p) H') : rSlA K (.ref a) lo hi H Q := by
  refine ⟨a, xs, rfl, h, fun w => q a H (Evl.Ex.refl H) ?_, fun _ p n => q p _ (Evl.Ex.new n) (k_st upd_same)⟩
  have e : cutV xs lo hi = xs := by
    unfold cutV
    rw [w.1, w.2, List.drop_zero, Nat.sub_zero, List.take_of_length_le (Nat.le_refl _)]
  rw [e]; exact h
theorem cut_to {ns : List Int} {i : Nat} (h : i ≤ ns.length) : cutV (ns.map V.int) none (some (i : Int)) = (ns.take i).map V.int := by
  unfold cutV
  rw [HT.sIx_none, HT.sIx_nat, List.length_map, Nat.min_eq_left h, List.drop_zero, Nat.sub_zero, List.map_take]
theorem cut_on {ns : List Int} {i : Nat} (h : i ≤ ns.length) : cutV (ns.map V.int) (some (i : Int)) none = (ns.drop i).map V.int := by
  unfold cutV
  rw [HT.sIx_none, HT.sIx_nat, List.length_map, Nat.min_eq_left h, List.take_of_length_le (by rw [List.length_drop, List.length_map]; exact Nat.le_refl _), List.map_drop]
end Mine
namespace Mine
open PySem PySem.Spec PyProof.Rows L2
open Evl (Ex)
theorem k_slH {K : PySem.W.Frag} {H : Hp} {Q : VK} {a : Addr} {xs : List V} {lo hi : Option Int} (h : H a = some (.tup xs)) (q : ∀ p H', Ex H H' → H' p = some (.tup (cutV xs lo hi)) → Q (.ref p) H') : rSlA K (.ref a) lo hi H Q := by
  refine ⟨a, xs, rfl, k_st h, fun w => q a H (Evl.Ex.refl H) ?_, fun _ p n => q p _ (Evl.Ex.new n) upd_same⟩
  have e : cutV xs lo hi = xs := by
    unfold cutV
    rw [w.1, w.2, List.drop_zero, Nat.sub_zero, List.take_of_length_le (Nat.le_refl _)]
  rw [e]; exact h
theorem k_catH {K : PySem.W.Frag} {H : Hp} {Q : VK} {a b : Addr} {xs ys : List V} (h1 : H a = some (.tup xs)) (h2 : H b = some (.tup ys)) (l : xs.length + ys.length ≤ sizeLine) (q : ∀ p H', Ex H H' → H' p = some (.tup (xs ++ ys)) → Q (.ref p) H') : rCatA K (.ref a) (.ref b) H Q :=
  ⟨a, b, xs, ys, rfl, rfl, k_st h1, k_st h2, l, fun e => q b H (Evl.Ex.refl H) (by rw [e]; exact h2), fun _ e => q a H (Evl.Ex.refl H) (by rw [e, List.append_nil]; exact h1), fun _ _ p n => q p _ (Evl.Ex.new n) upd_same⟩
/-- the pairs that are due -/
def DuP (H : Hp) (d : Addr) (s : List Int) : Prop := ∃ u, H d = some (.tup [.str "heaps", .ref u]) ∧ H u = some (.tup (s.map V.int))
theorem DuP.ex {H H' : Hp} {d : Addr} {s : List Int} (h : DuP H d s) (e : Ex H H') : DuP H' d s := let ⟨u, h1, h2⟩ := h; ⟨u, e _ _ h1, e _ _ h2⟩
def DsAt (H : Hp) (xs : List V) (ss : List (List Int)) : Prop := xs.length = ss.length ∧ ∀ (i : Nat) (s : List Int), ss[i]? = some s → ∃ b, xs[i]? = some (.ref b) ∧ DuP H b s
theorem DsAt.ex {H H' : Hp} {xs : List V} {ss : List (List Int)} (h : DsAt H xs ss) (e : Ex H H') : DsAt H' xs ss := ⟨h.1, fun i s q => let ⟨b, h1, h2⟩ := h.2 i s q; ⟨b, h1, h2.ex e⟩⟩
theorem DsAt.keep {H H' : Hp} {xs : List V} {ss : List (List Int)} (h : DsAt H xs ss) (k : ∀ c o, H c = some o → (∀ ys, o ≠ .lst ys) → H' c = some o) : DsAt H' xs ss :=
  ⟨h.1, fun i s q => let ⟨b, h1, u, h2, h3⟩ := h.2 i s q; ⟨b, h1, u, k _ _ h2 (fun ys z => by cases z), k _ _ h3 (fun ys z => by cases z)⟩⟩
theorem DsAt.snoc {H : Hp} {xs : List V} {ss : List (List Int)} {b : Addr} {s : List Int} (h : DsAt H xs ss) (hb : DuP H b s) : DsAt H (xs ++ [.ref b]) (ss ++ [s]) := by
  refine ⟨by rw [List.length_append, List.length_append, h.1]; rfl, fun i s' q => ?_⟩
  rcases Nat.lt_or_ge i ss.length with l | l
  · rw [List.getElem?_append_left l] at q
    obtain ⟨b', h1, h2⟩ := h.2 i s' q
    exact ⟨b', by rw [List.getElem?_append_left (by rw [h.1]; exact l)]; exact h1, h2⟩
  · have l2 := (List.getElem?_eq_some_iff.mp q).1
    rw [List.length_append, List.length_singleton] at l2
    have e : i = ss.length := by omega
    subst e
    rw [List.getElem?_append_right (Nat.le_refl _), Nat.sub_self] at q
    have e2 : s = s' := by injection q
    subst e2
    exact ⟨b, by rw [← h.1, List.getElem?_append_right (Nat.le_refl _), Nat.sub_self]; rfl, hb⟩
end Mine
namespace Mine
open PySem PySem.Spec PyProof.Rows L2
open Evl (Ex)
/-- a new object, by the name of the heap that holds it -/
theorem upd_ex {H : Hp} {p : Addr} {o : HO} (np : H p = none) : ∃ H', upd H p o = H' ∧ Ex H H' ∧ H' p = some o := ⟨_, rfl, Evl.Ex.new np, upd_same⟩
theorem nx {H H' : Hp} {p : Addr} {o : HO} (np : H p = none) (h : upd H p o = H') : Ex H H' := h ▸ Evl.Ex.new np
theorem nS {H H' : Hp} {p : Addr} {o : HO} (h : upd H p o = H') : H' p = some o := h ▸ upd_same
section
variable {H : Hp} {K : PySem.W.Frag} {Q : VK}
theorem n_sl {a : Addr} {xs : List V} {lo hi : Option Int} (h : SqL K H a xs) (q : ∀ p H', H p = none → Ex H H' → H' p = some (.lst (cutV xs lo hi)) → Q (.ref p) H') : rSlL K (.ref a) lo hi H Q :=
  k_slL h fun p np => q p _ np (Evl.Ex.new np) upd_same
theorem n_cat {a b : Addr} {xs ys : List V} (h1 : H a = some (.lst xs)) (h2 : H b = some (.lst ys)) (l : xs.length + ys.length ≤ sizeLine) (q : ∀ p H', H p = none → Ex H H' → H' p = some (.lst (xs ++ ys)) → Q (.ref p) H') : rCat (.ref a) (.ref b) H Q :=
  k_rCat h1 h2 l fun p np => q p _ np (Evl.Ex.new np) upd_same
theorem n_rep {a : Addr} {k : Int} {xs : List V} (h : H a = some (.lst xs)) (b1 : -(2 ^ 63) ≤ k) (b2 : k < 2 ^ 63) (l : xs.length * k.toNat ≤ sizeLine) (q : ∀ p H', H p = none → Ex H H' → H' p = some (.lst (List.replicate k.toNat xs).flatten) → Q (.ref p) H') : rRep (.ref a) (.int k) H Q :=
  ⟨a, k, xs, rfl, rfl, h, b1, b2, l, fun p np => q p _ np (Evl.Ex.new np) upd_same⟩
theorem n_tupL {a : Addr} {xs : List V} (h : SqL K H a xs) (q : ∀ p H', H p = none → Ex H H' → H' p = some (.tup xs) → Q (.ref p) H') : rTupL K [.ref a] H Q :=
  k_rTupL h fun p np => q p _ np (Evl.Ex.new np) upd_same
theorem n_listL {a : Addr} {xs : List V} (h : SqL K H a xs) (q : ∀ p H', H p = none → Ex H H' → H' p = some (.lst xs) → Q (.ref p) H') : rListQ K [.ref a] H Q :=
  k_rListL h fun p np => q p _ np (Evl.Ex.new np) upd_same
theorem n_listT {a : Addr} {xs : List V} (h : SqT K H a xs) (q : ∀ p H', H p = none → Ex H H' → H' p = some (.lst xs) → Q (.ref p) H') : rListQ K [.ref a] H Q :=
  k_rListT h fun p np => q p _ np (Evl.Ex.new np) upd_same
theorem fits {n : Nat} (h : n ≤ 3000) : n ≤ sizeLine := Nat.le_trans h (by decide)
theorem fits' {n : Nat} (h : n ≤ 3000) : n < sizeLine := Nat.lt_of_le_of_lt h (by decide)
end
theorem cut_cut {xs : List V} {i : Nat} (h : i ≤ xs.length) : cutV xs none (some (i : Int)) = xs.take i := by
  unfold cutV
  rw [HT.sIx_none, HT.sIx_nat, Nat.min_eq_left h, List.drop_zero, Nat.sub_zero]
theorem cut_all {xs : List V} {i : Nat} (h : xs.length ≤ i) : cutV xs none (some (i : Int)) = xs := by
  unfold cutV
  rw [HT.sIx_none, HT.sIx_nat, Nat.min_eq_right h, List.drop_zero, Nat.sub_zero, List.take_of_length_le (Nat.le_refl _)]
theorem cut_min {xs : List V} {i : Nat} : cutV xs none (some (i : Int)) = xs.take i := by
  rcases Nat.le_total i xs.length with h | h
  · exact cut_cut h
  · rw [cut_all h, List.take_of_length_le h]
theorem cut_off {xs : List V} {i : Nat} (h : i ≤ xs.length) : cutV xs (some (i : Int)) none = xs.drop i := by
  unfold cutV
  rw [HT.sIx_none, HT.sIx_nat, Nat.min_eq_left h, List.take_of_length_le (by rw [List.length_drop]; exact Nat.le_refl _)]
end Mine
namespace Mine
open PySem PySem.Spec PyProof.Rows L2
open Evl (Ex)
/-- one turn makes an item with a property -/
def turnQ (g : TG) (tt : TT) (te : TE) (vs : List Nat) (σ : L2.St) (x : V) (P : V → Hp → Prop) (H1 : Hp) : Prop := ∀ H', Ex H1 H' → ∀ R : Option V → Hp → Prop, (∀ y H'', Ex H' H'' → P y H'' → R (some y) H'') →
  g x (wipe σ vs) H' fun σ2 H2 => wipe σ2 vs = wipe σ vs ∧ tt σ2 H2 fun b H3 => if b = true then te σ2 H3 fun y H4 => R (some y) H4 else R none H3
/-- what holds of an item while nothing but lists changes -/
def Lasts (P : V → V → Hp → Prop) : Prop := ∀ (x y : V) (H H' : Hp), P x y H → (∀ c o, H c = some o → (∀ ys, o ≠ .lst ys) → H' c = some o) → P x y H'
section
variable {g : TG} {tt : TT} {te : TE} {vs : List Nat} {σ : L2.St} {Q : VK} {H1 : Hp} {K : PySem.W.Frag}
theorem turnQ_in {x : V} {P : V → Hp → Prop} {D : Addr} {acc : List V} {H : Hp} {Nx : Hp → Prop} (t : turnQ g tt te vs σ x P H1) (e : Ex H1 H) (hD : H1 D = none) (a : H D = some (.lst acc)) (len : acc.length < sizeLine)
    (nx : ∀ y H2 H', Ex H H2 → P y H2 → Ex H1 H' → H' D = some (.lst (acc ++ [y])) → (∀ c o, H2 c = some o → (∀ ys, o ≠ .lst ys) → H' c = some o) → Nx H') :
    g x (wipe σ vs) H fun σ2 H2 => wipe σ2 vs = wipe σ vs ∧ tt σ2 H2 fun b H3 => if b = true then te σ2 H3 fun y H4 => ∃ acc, H4 D = some (.lst acc) ∧ acc.length < sizeLine ∧ Nx (upd H4 D (.lst (acc ++ [y]))) else Nx H3 := by
  have no : ∀ o' : Option V, o' = none → ∀ H4 : Hp, True := fun _ _ _ => trivial
  refine (fun z => ?_) (t H e (fun o' H4 => match o' with | some y => ∃ acc, H4 D = some (.lst acc) ∧ acc.length < sizeLine ∧ Nx (upd H4 D (.lst (acc ++ [y]))) | none => Nx H4) fun y H'' e2 p => ?_)
  · exact z
  · refine ⟨acc, e2 _ _ a, len, nx y H'' _ e2 p (Evl.Ex.mut (e.trans e2) hD) upd_same fun c o q n => (upd_ne fun z => ?_).trans q⟩
    rw [z, e2 _ _ a] at q
    exact n _ (Option.some.inj q).symm
theorem lcQ_tup {a : Addr} {xs : List V} (P : V → V → Hp → Prop) (La : Lasts P) (hS : SqT K H1 a xs) (len : xs.length < sizeLine) (t : ∀ (i : Nat) (x : V), xs[i]? = some x → turnQ g tt te vs σ x (P x) H1)
    (q : ∀ D ys H', H1 D = none → Ex H1 H' → H' D = some (.lst ys) → ys.length = xs.length → (∀ (i : Nat) (x : V), xs[i]? = some x → ∃ y, ys[i]? = some y ∧ P x y H') → Q (.ref D) H') : lcR g tt te vs σ Q (Itt K a) H1 := by
  intro D hD
  refine lc_tup (K := K) (a := a) (xs := xs) (fun i H => ∃ ys, Ex H1 H ∧ H D = some (.lst ys) ∧ ys.length = i ∧ ∀ (j : Nat) (x : V), j < i → xs[j]? = some x → ∃ y, ys[j]? = some y ∧ P x y H) ⟨[], Evl.Ex.new hD, upd_same, rfl, fun j x h => absurd h (Nat.not_lt_zero _)⟩ (fun i H _ ⟨_, e, _⟩ => Evl.ex_t e hS) (fun i x H hx p => ?_) (fun H p => ?_)
  · obtain ⟨ys, e, hd, yl, ok⟩ := p
    have hi := (List.getElem?_eq_some_iff.mp hx).1
    refine turnQ_in (t i x hx) e hD hd (by omega) fun y H2 H' e2 py e' hd' kp => ⟨ys ++ [y], e', hd', by rw [List.length_append, yl]; rfl, fun j x' hj hx' => ?_⟩
    rcases Nat.lt_or_ge j i with l | l
    · obtain ⟨y', h1, h2⟩ := ok j x' l hx'
      exact ⟨y', by rw [List.getElem?_append_left (by omega)]; exact h1, La _ _ _ _ h2 fun c o q n => kp c o (e2 _ _ q) n⟩
    · have ej : j = i := by omega
      subst ej
      rw [hx] at hx'
      injection hx' with hx'
      subst hx'
      exact ⟨y, by rw [← yl, List.getElem?_append_right (Nat.le_refl _), Nat.sub_self]; rfl, La _ _ _ _ py kp⟩
  · obtain ⟨ys, e, hd, yl, ok⟩ := p
    exact q D ys H hD e hd yl fun i x hx => ok i x (List.getElem?_eq_some_iff.mp hx).1 hx
theorem lcQ_list {a : Addr} {xs : List V} (P : V → V → Hp → Prop) (La : Lasts P) (hS : SqL K H1 a xs) (len : xs.length < sizeLine) (t : ∀ (i : Nat) (x : V), xs[i]? = some x → turnQ g tt te vs σ x (P x) H1)
    (q : ∀ D ys H', H1 D = none → Ex H1 H' → H' D = some (.lst ys) → ys.length = xs.length → (∀ (i : Nat) (x : V), xs[i]? = some x → ∃ y, ys[i]? = some y ∧ P x y H') → Q (.ref D) H') : lcR g tt te vs σ Q (Itl K a) H1 := by
  intro D hD
  refine lc_list (K := K) (a := a) (xs := xs) (fun i H => ∃ ys, Ex H1 H ∧ H D = some (.lst ys) ∧ ys.length = i ∧ ∀ (j : Nat) (x : V), j < i → xs[j]? = some x → ∃ y, ys[j]? = some y ∧ P x y H) ⟨[], Evl.Ex.new hD, upd_same, rfl, fun j x h => absurd h (Nat.not_lt_zero _)⟩ (fun i H _ ⟨_, e, _⟩ => Evl.ex_l e hS) (fun i x H hx p => ?_) (fun H p => ?_)
  · obtain ⟨ys, e, hd, yl, ok⟩ := p
    have hi := (List.getElem?_eq_some_iff.mp hx).1
    refine turnQ_in (t i x hx) e hD hd (by omega) fun y H2 H' e2 py e' hd' kp => ⟨ys ++ [y], e', hd', by rw [List.length_append, yl]; rfl, fun j x' hj hx' => ?_⟩
    rcases Nat.lt_or_ge j i with l | l
    · obtain ⟨y', h1, h2⟩ := ok j x' l hx'
      exact ⟨y', by rw [List.getElem?_append_left (by omega)]; exact h1, La _ _ _ _ h2 fun c o q n => kp c o (e2 _ _ q) n⟩
    · have ej : j = i := by omega
      subst ej
      rw [hx] at hx'
      injection hx' with hx'
      subst hx'
      exact ⟨y, by rw [← yl, List.getElem?_append_right (Nat.le_refl _), Nat.sub_self]; rfl, La _ _ _ _ py kp⟩
  · obtain ⟨ys, e, hd, yl, ok⟩ := p
    exact q D ys H hD e hd yl fun i x hx => ok i x (List.getElem?_eq_some_iff.mp hx).1 hx
/-- a plain item: no test, one name -/
theorem turnQ_map {i : Nat} {x : V} {P : V → Hp → Prop} (h : ∀ H', Ex H1 H' → ∀ R : VK, (∀ y H'', Ex H' H'' → P y H'' → R y H'') → te ((wipe σ [i]).set i (some x)) H' R) (w : wipe ((wipe σ [i]).set i (some x)) [i] = wipe σ [i] := by rfl) : turnQ (gName i) tYes te [i] σ x P H1 :=
  fun H' e R r => ⟨w, h H' e _ fun y H'' e2 p => r y H'' e2 p⟩
end
end Mine
namespace Mine
open PySem PySem.Spec PyProof.Rows L2
open Evl (Ex)
section
variable {g : TG} {tt : TT} {te : TE} {vs : List Nat} {σ : L2.St} {Q : VK} {H1 : Hp} {K : PySem.W.Frag}
theorem lcQ_rng {lo : Int} {n : Nat} (P : Nat → V → Hp → Prop) (La : ∀ (i : Nat) (y : V) (H H' : Hp), P i y H → (∀ c o, H c = some o → (∀ ys, o ≠ .lst ys) → H' c = some o) → P i y H') (len : n < sizeLine) (t : ∀ i, i < n → turnQ g tt te vs σ (.int (lo + (i : Int))) (P i) H1)
    (q : ∀ D ys H', H1 D = none → Ex H1 H' → H' D = some (.lst ys) → ys.length = n → (∀ (i : Nat), i < n → ∃ y, ys[i]? = some y ∧ P i y H') → Q (.ref D) H') : lcR g tt te vs σ Q (Itr lo n) H1 := by
  intro D hD
  refine lc_range (lo := lo) (n := n) (fun i H => ∃ ys, Ex H1 H ∧ H D = some (.lst ys) ∧ ys.length = i ∧ ∀ (j : Nat), j < i → ∃ y, ys[j]? = some y ∧ P j y H) ⟨[], Evl.Ex.new hD, upd_same, rfl, fun j h => absurd h (Nat.not_lt_zero _)⟩ (fun i H hi p => ?_) (fun H p => ?_)
  · obtain ⟨ys, e, hd, yl, ok⟩ := p
    refine turnQ_in (t i hi) e hD hd (by omega) fun y H2 H' e2 py e' hd' kp => ⟨ys ++ [y], e', hd', by rw [List.length_append, yl]; rfl, fun j hj => ?_⟩
    rcases Nat.lt_or_ge j i with l | l
    · obtain ⟨y', h1, h2⟩ := ok j l
      exact ⟨y', by rw [List.getElem?_append_left (by omega)]; exact h1, La _ _ _ _ h2 fun c o q n => kp c o (e2 _ _ q) n⟩
    · have ej : j = i := by omega
      subst ej
      exact ⟨y, by rw [← yl, List.getElem?_append_right (Nat.le_refl _), Nat.sub_self]; rfl, La _ _ _ _ py kp⟩
  · obtain ⟨ys, e, hd, yl, ok⟩ := p
    exact q D ys H hD e hd yl ok
end
end Mine
namespace Mine
open PySem PySem.Spec PyProof.Rows L2
open Evl (Ex)
/-! who wins -/
structure FWins (K : PySem.W.Frag) : Prop where
  cl : Cls K (He.ga K "Wins")
  ny : NoAttr K (He.ga K "Wins") "_yard"
  nl : NoAttr K (He.ga K "Wins") "_left"
  nr : NoAttr K (He.ga K "Wins") "_right"
def wfs (y l r : Addr) : List (Str × V) := putF "_right" (.ref r) (putF "_left" (.ref l) (putF "_yard" (.ref y) []))
theorem wfs_r (y l r : Addr) : (wfs y l r).lookup ("_right" : Str) = some (.ref r) := by
  unfold wfs
  rw [lookup_putF, if_pos rfl]
theorem wfs_l (y l r : Addr) : (wfs y l r).lookup ("_left" : Str) = some (.ref l) := by
  unfold wfs
  rw [lookup_putF, if_neg (by decide +kernel), lookup_putF, if_pos rfl]
theorem wfs_y (y l r : Addr) : (wfs y l r).lookup ("_yard" : Str) = some (.ref y) := by
  unfold wfs
  rw [lookup_putF, if_neg (by decide +kernel), lookup_putF, if_neg (by decide +kernel), lookup_putF, if_pos rfl]
theorem wfs_no (y l r : Addr) {m : Str} (h1 : ¬ m = "_right") (h2 : ¬ m = "_left") (h3 : ¬ m = "_yard") : (wfs y l r).lookup m = none := by
  unfold wfs
  rw [lookup_putF, if_neg h1, lookup_putF, if_neg h2, lookup_putF, if_neg h3]
  rfl
def anyNot (tab : List Bool) (opts : List Int) : Bool := opts.any fun k => !(tab.getD k.toNat false)
def wTab (G : List Pr) : Nat → List Bool × List Bool
  | 0 => ([], [])
  | n + 1 => ((wTab G n).1 ++ [anyNot (wTab G n).2 (G.getD n ([], [])).1], (wTab G n).2 ++ [anyNot (wTab G n).1 (G.getD n ([], [])).2])
theorem wTab_len (G : List Pr) : ∀ n, (wTab G n).1.length = n ∧ (wTab G n).2.length = n
  | 0 => ⟨rfl, rfl⟩
  | n + 1 => by
    obtain ⟨h1, h2⟩ := wTab_len G n
    unfold wTab
    rw [List.length_append, List.length_append, h1, h2]
    exact ⟨rfl, rfl⟩
theorem wTab_ext {G G' : List Pr} : ∀ {n : Nat}, (∀ i, i < n → G[i]? = G'[i]?) → wTab G n = wTab G' n
  | 0, _ => rfl
  | n + 1, h => by
    have ih := wTab_ext (n := n) fun i hi => h i (by omega)
    unfold wTab
    rw [ih, List.getD_eq_getElem?_getD, List.getD_eq_getElem?_getD, h n (by omega)]
theorem wTab_get (G : List Pr) {k : Nat} : ∀ {n : Nat}, k < n → (wTab G n).1[k]? = (wTab G (k + 1)).1[k]? ∧ (wTab G n).2[k]? = (wTab G (k + 1)).2[k]?
  | 0, h => absurd h (Nat.not_lt_zero _)
  | n + 1, h => by
    by_cases e : k = n
    · subst e; exact ⟨rfl, rfl⟩
    · have ih := wTab_get G (k := k) (n := n) (by omega)
      obtain ⟨l1, l2⟩ := wTab_len G n
      rw [← ih.1, ← ih.2]
      constructor
      · show ((wTab G n).1 ++ _)[k]? = _
        rw [List.getElem?_append_left (by omega)]
      · show ((wTab G n).2 ++ _)[k]? = _
        rw [List.getElem?_append_left (by omega)]
/-- whether a side wins when it is to move: 0 left, 1 right -/
def winG (G : List Pr) (s : Nat) (k : Nat) : Bool := if s = 0 then (wTab G (k + 1)).1.getD k false else (wTab G (k + 1)).2.getD k false
theorem winG_ext {G G' : List Pr} {s k : Nat} (h : ∀ i, i ≤ k → G[i]? = G'[i]?) : winG G s k = winG G' s k := by
  unfold winG
  rw [wTab_ext (n := k + 1) fun i hi => h i (by omega)]
theorem tab_win (G : List Pr) {n k : Nat} (h : k < n) : (wTab G n).1[k]? = some (winG G 0 k) ∧ (wTab G n).2[k]? = some (winG G 1 k) := by
  obtain ⟨h1, h2⟩ := wTab_get G h
  obtain ⟨l1, l2⟩ := wTab_len G (k + 1)
  rw [h1, h2]
  unfold winG
  rw [if_pos rfl, if_neg (by decide), List.getD_eq_getElem?_getD, List.getD_eq_getElem?_getD, List.getElem?_eq_getElem (by omega), List.getElem?_eq_getElem (by omega)]
  exact ⟨rfl, rfl⟩
theorem any_congr {f g : Int → Bool} : ∀ {l : List Int}, (∀ x ∈ l, f x = g x) → l.any f = l.any g
  | [], _ => rfl
  | a :: l, h => by
    rw [List.any_cons, List.any_cons, h a List.mem_cons_self, any_congr fun x m => h x (List.mem_cons_of_mem _ m)]
theorem winG_eq {G : List Pr} (f : Forms G) {k : Nat} {g : Pr} (h : G[k]? = some g) : winG G 0 k = g.1.any (fun o => !(winG G 1 o.toNat)) ∧ winG G 1 k = g.2.any fun o => !(winG G 0 o.toNat) := by
  have gd : G.getD k ([], []) = g := by rw [List.getD_eq_getElem?_getD, h]; rfl
  obtain ⟨l1, l2⟩ := wTab_len G k
  obtain ⟨a1, a2⟩ := f.asc k g h
  have t1 := (tab_win G (Nat.lt_succ_self k)).1
  have t2 := (tab_win G (Nat.lt_succ_self k)).2
  have e1 : (wTab G (k + 1)).1[k]? = some (anyNot (wTab G k).2 g.1) := by
    show ((wTab G k).1 ++ [anyNot (wTab G k).2 (G.getD k ([], [])).1])[k]? = _
    rw [List.getElem?_append_right (by omega), l1, Nat.sub_self, gd]; rfl
  have e2 : (wTab G (k + 1)).2[k]? = some (anyNot (wTab G k).1 g.2) := by
    show ((wTab G k).2 ++ [anyNot (wTab G k).1 (G.getD k ([], [])).2])[k]? = _
    rw [List.getElem?_append_right (by omega), l2, Nat.sub_self, gd]; rfl
  rw [e1] at t1
  rw [e2] at t2
  rw [← Option.some.inj t1, ← Option.some.inj t2]
  unfold anyNot
  constructor
  · refine any_congr fun o m => ?_
    have b := a1.2 o m
    rw [List.getD_eq_getElem?_getD, (tab_win G (k := o.toNat) (n := k) (by omega)).2]; rfl
  · refine any_congr fun o m => ?_
    have b := a2.2 o m
    rw [List.getD_eq_getElem?_getD, (tab_win G (k := o.toNat) (n := k) (by omega)).1]; rfl
/-- the object, with the games up to n settled -/
structure WnAt (K : PySem.W.Frag) (H : Hp) (a dx y l r : Addr) (G : List Pr) (n : Nat) : Prop where
  ins : H a = some (.ins (He.ga K "Wins") dx (wfs y l r))
  hl : H l = some (.lst ((wTab G n).1.map V.bl))
  hr : H r = some (.lst ((wTab G n).2.map V.bl))
  lr : l ≠ r
theorem WnAt.keep {K : PySem.W.Frag} {H H' : Hp} {a dx y l r : Addr} {G : List Pr} {n : Nat} (W : WnAt K H a dx y l r G n) (k : ∀ c o, H c = some o → c = a ∨ c = l ∨ c = r → H' c = some o) : WnAt K H' a dx y l r G n :=
  ⟨k _ _ W.ins (Or.inl rfl), k _ _ W.hl (Or.inr (Or.inl rfl)), k _ _ W.hr (Or.inr (Or.inr rfl)), W.lr⟩
theorem WnAt.ex {K : PySem.W.Frag} {H H' : Hp} {a dx y l r : Addr} {G : List Pr} {n : Nat} (W : WnAt K H a dx y l r G n) (e : Ex H H') : WnAt K H' a dx y l r G n := W.keep fun c o z _ => e c o z
end Mine
namespace Mine
open PySem PySem.Spec PyProof.Rows L2
open PySem.AutoSeq1
set_option maxHeartbeats 1600000 in
theorem tuple_mul_one (l : Addr) (items : Array Value) (n : Nat) (dd : Option Addr) (sl : Array (Option Value)) (u : Tok) :
    Meets (Builtin.«tuple.__mul__» ⟨[.ref l, .int 1 u], []⟩) (fun _ R s => s.heap.get? l = some { cls := .type "tuple", dict := dd, data := .seq items n, slots := sl } ∧ R (.ok (.ret (.ref l))) s) :=
  .of_wp fun prog w A R s h => by
    obtain ⟨h1, h⟩ := h
    unfold Builtin.«tuple.__mul__»
    wp_walk
    exact ⟨_, rfl, h⟩
set_option maxHeartbeats 1600000 in
theorem tuple_mul_zero (l : Addr) (items : Array Value) (n : Nat) (dd : Option Addr) (sl : Array (Option Value)) (u : Tok) (he : items.isEmpty = false) :
    Meets (Builtin.«tuple.__mul__» ⟨[.ref l, .int 0 u], []⟩) (fun _ R s => s.heap.get? l = some { cls := .type "tuple", dict := dd, data := .seq items n, slots := sl } ∧ R (.ok (.ret (.ref s.heap.objs.size))) { s with heap := s.heap.push { cls := .type "tuple", data := .seq #[] } }) :=
  .of_wp fun prog w A R s h => by
    obtain ⟨h1, h⟩ := h
    unfold Builtin.«tuple.__mul__»
    wp_walk
    exact ⟨_, rfl, h⟩
end Mine
namespace Mine
open PySem PySem.Spec PyProof.Rows L2
def rRepA (K : PySem.W.Frag) : R2 := fun x y H Q => ∃ l k xs, x = .ref l ∧ y = .int k ∧ SqT K H l xs ∧ xs ≠ [] ∧ 0 ≤ k ∧ k ≤ 1000 ∧ xs.length ≤ 1000 ∧ (k = 1 → Q (.ref l) H) ∧ (k ≠ 1 → ∀ p, H p = none → Q (.ref p) (upd H p (.tup (List.replicate k.toNat xs).flatten)))
theorem op_repA {X : Cx} : OpR X (binaryOp .Mult) (rRepA X.K) := by
  rintro pins s σ H x y v u Q I rx ry ⟨l, k, xs, rfl, rfl, hq, ne, k0, k1000, l1000, q1, q2⟩
  rcases (show k = 0 ∨ k = 1 ∨ 2 ≤ k by omega) with rfl | rfl | k2
  · obtain ⟨its, rv, ⟨o, ho, hc, n, hd⟩, hz⟩ := I.tuple hq
    have q := q2 (by decide)
    cases rx
    obtain ⟨tk, rfl⟩ := ry
    obtain ⟨cls, dd, dat, sl⟩ := o
    cases hc
    cases hd
    have he : its.toArray.isEmpty = false := by
      cases its with
      | nil => cases rv; exact absurd rfl ne
      | cons z zs => rfl
    refine wpAny_binaryOp_repeat_ref (T := "tuple") (U := "int") (by decide) ⟨_, ho, rfl⟩ (fun s' => typeIs_int s' 0 tk) noFill_tuple_mul F.fills_int_mul F.slot_int_rmul repeat_tuple F.slot_int_index.lookup ?_
    refine call_meets F.slot_int_rmul (typeIs_int _ 0 tk) F.entry_int_rmul (F.args_int_rmul_2 _ _) (int_rmul_tuple 0 tk l its.toArray n dd sl) ⟨ho, rfl, ⟨_, ho, rfl⟩, ?_⟩
    refine call_meets F.slot_tuple_mul ⟨_, ho, rfl⟩ F.entry_tuple_mul (F.args_tuple_mul_2 _ _) (tuple_mul_zero l its.toArray n dd sl tk he) ⟨ho, ?_⟩
    refine ⟨.ref s.heap.objs.size, upd H s.heap.objs.size (.tup []), I.laid (fun b u h => Heap.get?_push_of_some _ h) (Nat.le_refl _) ?_, rfl, q _ (I.hok.fresh (Nat.le_refl _))⟩
    exact ⟨Nat.zero_le _, [], .nil, IsTup.new _ _⟩
  · obtain ⟨its, rv, ⟨o, ho, hc, n, hd⟩, hz⟩ := I.tuple hq
    cases rx
    obtain ⟨tk, rfl⟩ := ry
    obtain ⟨cls, dd, dat, sl⟩ := o
    cases hc
    cases hd
    refine wpAny_binaryOp_repeat_ref (T := "tuple") (U := "int") (by decide) ⟨_, ho, rfl⟩ (fun s' => typeIs_int s' 1 tk) noFill_tuple_mul F.fills_int_mul F.slot_int_rmul repeat_tuple F.slot_int_index.lookup ?_
    refine call_meets F.slot_int_rmul (typeIs_int _ 1 tk) F.entry_int_rmul (F.args_int_rmul_2 _ _) (int_rmul_tuple 1 tk l its.toArray n dd sl) ⟨ho, rfl, ⟨_, ho, rfl⟩, ?_⟩
    refine call_meets F.slot_tuple_mul ⟨_, ho, rfl⟩ F.entry_tuple_mul (F.args_tuple_mul_2 _ _) (tuple_mul_one l its.toArray n dd sl tk) ⟨ho, ?_⟩
    exact ⟨.ref l, H, I, rfl, q1 rfl⟩
  · exact op_repT pins s σ H _ _ v u Q I rx ry ⟨l, k, xs, rfl, rfl, hq, ne, k2, k1000, l1000, q2 (by omega)⟩
end Mine
namespace Mine
open PySem PySem.Spec PyProof.Rows L2
open Evl (Ex)
/-! what a cell and its digits are, as functions -/
def cellF (ns : List Int) (k : Int) : Int := if k < ns.length then ns.getD k.toNat 0 else ns.foldl (fun m c => (m * 31 + c) % 2147483647) (104729 * k + 7)
def dgA (c : Int) : Nat → List Int × Int
  | 0 => ([], c)
  | i + 1 => ((dgA c i).1 ++ [(dgA c i).2 % 60], (dgA c i).2 / 60)
def dgB (c : Int) : Nat → List Int × Int
  | 0 => ([], (c * 48271 + 11) % 2147483647)
  | i + 1 => ((dgB c i).1 ++ [((dgB c i).2 * 69621 + 7 * (i : Int) + 1) % 2147483629 / 64 % 60], ((dgB c i).2 * 69621 + 7 * (i : Int) + 1) % 2147483629)
def dgF (c : Int) (n : Nat) : List Int := if 1000000000000000000 ≤ c then (dgA c n).1 else (dgB c n).1
theorem dgA_len (c : Int) : ∀ n, (dgA c n).1.length = n
  | 0 => rfl
  | n + 1 => by show ((dgA c n).1 ++ [_]).length = _; rw [List.length_append, dgA_len c n]; rfl
theorem dgB_len (c : Int) : ∀ n, (dgB c n).1.length = n
  | 0 => rfl
  | n + 1 => by show ((dgB c n).1 ++ [_]).length = _; rw [List.length_append, dgB_len c n]; rfl
theorem dgF_len (c : Int) (n : Nat) : (dgF c n).length = n := by
  unfold dgF
  split
  · exact dgA_len c n
  · exact dgB_len c n
theorem dgA_in (c : Int) : ∀ n, ∀ d ∈ (dgA c n).1, 0 ≤ d ∧ d < 60
  | 0, d, m => by cases m
  | n + 1, d, m => by
    rcases List.mem_append.mp (show d ∈ (dgA c n).1 ++ [_] from m) with m | m
    · exact dgA_in c n d m
    · rw [List.mem_singleton.mp m]; omega
theorem dgB_in (c : Int) : ∀ n, ∀ d ∈ (dgB c n).1, 0 ≤ d ∧ d < 60
  | 0, d, m => by cases m
  | n + 1, d, m => by
    rcases List.mem_append.mp (show d ∈ (dgB c n).1 ++ [_] from m) with m | m
    · exact dgB_in c n d m
    · rw [List.mem_singleton.mp m]; omega
theorem dgF_in (c : Int) (n : Nat) : ∀ d ∈ dgF c n, 0 ≤ d ∧ d < 60 := by
  unfold dgF
  split
  · exact dgA_in c n
  · exact dgB_in c n
/-! cakes -/
structure FCakes (K : PySem.W.Frag) : Prop where
  cl : Cls K (He.ga K "Cakes")
  na : NoAttr K (He.ga K "Cakes") "_cakes"
def cfs (t : Addr) : List (Str × V) := putF "_cakes" (.ref t) []
theorem cfs_get (t : Addr) : (cfs t).lookup ("_cakes" : Str) = some (.ref t) := by
  unfold cfs
  rw [lookup_putF, if_pos rfl]
theorem cfs_no (t : Addr) {m : Str} (h : ¬ m = "_cakes") : (cfs t).lookup m = none := by
  unfold cfs
  rw [lookup_putF, if_neg h]
  rfl
abbrev Ck := Int × Int
def CkAt (H : Hp) (y : V) (c : Ck) : Prop := ∃ a, y = .ref a ∧ H a = some (.tup [.int c.1, .int c.2])
theorem CkAt.keep {H H' : Hp} {y : V} {c : Ck} (h : CkAt H y c) (k : ∀ c o, H c = some o → (∀ ys, o ≠ .lst ys) → H' c = some o) : CkAt H' y c := let ⟨a, r, z⟩ := h; ⟨a, r, k _ _ z (fun ys z => by cases z)⟩
theorem CkAt.ex {H H' : Hp} {y : V} {c : Ck} (h : CkAt H y c) (e : Ex H H') : CkAt H' y c := h.keep fun c o z _ => e c o z
/-- a list of things, each with its property -/
def AllAt {α : Type} (P : Hp → V → α → Prop) (H : Hp) (xs : List V) (cs : List α) : Prop := xs.length = cs.length ∧ ∀ (i : Nat) (c : α), cs[i]? = some c → ∃ y, xs[i]? = some y ∧ P H y c
theorem AllAt.imp {α : Type} {P : Hp → V → α → Prop} {H H' : Hp} {xs : List V} {cs : List α} (h : AllAt P H xs cs) (f : ∀ y c, P H y c → P H' y c) : AllAt P H' xs cs := ⟨h.1, fun i c q => let ⟨y, h1, h2⟩ := h.2 i c q; ⟨y, h1, f _ _ h2⟩⟩
theorem get_snoc2 {α : Type} {l : List α} {x y : α} {i : Nat} (h : (l ++ [x])[i]? = some y) : l[i]? = some y ∨ (i = l.length ∧ y = x) := by
  rcases Nat.lt_or_ge i l.length with c | c
  · rw [List.getElem?_append_left c] at h; exact Or.inl h
  · have l2 := (List.getElem?_eq_some_iff.mp h).1
    rw [List.length_append, List.length_singleton] at l2
    have e : i = l.length := by omega
    subst e
    rw [List.getElem?_append_right (Nat.le_refl _), Nat.sub_self] at h
    exact Or.inr ⟨rfl, (Option.some.inj h).symm⟩
theorem AllAt.nil {α : Type} {P : Hp → V → α → Prop} {H : Hp} : AllAt P H [] [] := ⟨rfl, fun i c h => by simp at h⟩
theorem AllAt.app {α : Type} {P : Hp → V → α → Prop} {H : Hp} {xs ys : List V} {cs ds : List α} (h : AllAt P H xs cs) (h' : AllAt P H ys ds) : AllAt P H (xs ++ ys) (cs ++ ds) := by
  refine ⟨by rw [List.length_append, List.length_append, h.1, h'.1], fun i c q => ?_⟩
  rcases Nat.lt_or_ge i cs.length with l | l
  · rw [List.getElem?_append_left l] at q
    obtain ⟨y, h1, h2⟩ := h.2 i c q
    exact ⟨y, by rw [List.getElem?_append_left (by rw [h.1]; exact l)]; exact h1, h2⟩
  · rw [List.getElem?_append_right l] at q
    obtain ⟨y, h1, h2⟩ := h'.2 _ c q
    exact ⟨y, by rw [List.getElem?_append_right (by rw [h.1]; exact l), h.1]; exact h1, h2⟩
theorem AllAt.one {α : Type} {P : Hp → V → α → Prop} {H : Hp} {y : V} {c : α} (h : P H y c) : AllAt P H [y] [c] := by
  refine ⟨rfl, fun i d q => ?_⟩
  match i with
  | 0 => cases q; exact ⟨y, rfl, h⟩
  | i + 1 => cases q
theorem AllAt.take {α : Type} {P : Hp → V → α → Prop} {H : Hp} {xs : List V} {cs : List α} (h : AllAt P H xs cs) (n : Nat) : AllAt P H (xs.take n) (cs.take n) := by
  refine ⟨by rw [List.length_take, List.length_take, h.1], fun i c q => ?_⟩
  have l := (List.getElem?_eq_some_iff.mp q).1
  rw [List.length_take] at l
  rw [List.getElem?_take_of_lt (by omega)] at q
  obtain ⟨y, h1, h2⟩ := h.2 i c q
  exact ⟨y, by rw [List.getElem?_take_of_lt (by omega)]; exact h1, h2⟩
theorem AllAt.drop {α : Type} {P : Hp → V → α → Prop} {H : Hp} {xs : List V} {cs : List α} (h : AllAt P H xs cs) (n : Nat) : AllAt P H (xs.drop n) (cs.drop n) := by
  refine ⟨by rw [List.length_drop, List.length_drop, h.1], fun i c q => ?_⟩
  rw [List.getElem?_drop] at q
  obtain ⟨y, h1, h2⟩ := h.2 _ c q
  exact ⟨y, by rw [List.getElem?_drop]; exact h1, h2⟩
theorem AllAt.rep {α : Type} {P : Hp → V → α → Prop} {H : Hp} {y : V} {c : α} (h : P H y c) : ∀ n : Nat, AllAt P H (List.replicate n [y]).flatten (List.replicate n c)
  | 0 => .nil
  | n + 1 => by
    rw [List.replicate_succ, List.replicate_succ, List.flatten_cons]
    exact AllAt.app (cs := [c]) (.one h) (AllAt.rep h n)
abbrev CsAt := AllAt CkAt
theorem CsAt.keep {H H' : Hp} {xs : List V} {cs : List Ck} (h : CsAt H xs cs) (k : ∀ c o, H c = some o → (∀ ys, o ≠ .lst ys) → H' c = some o) : CsAt H' xs cs := h.imp fun y c q => q.keep k
theorem CsAt.ex {H H' : Hp} {xs : List V} {cs : List Ck} (h : CsAt H xs cs) (e : Ex H H') : CsAt H' xs cs := h.imp fun y c q => q.ex e
/-- a board of cakes -/
def CbAt (K : PySem.W.Frag) (H : Hp) (b : Addr) (cs : List Ck) : Prop := ∃ dx t xs, H b = some (.ins (He.ga K "Cakes") dx (cfs t)) ∧ H t = some (.tup xs) ∧ CsAt H xs cs
theorem CbAt.keep {K : PySem.W.Frag} {H H' : Hp} {b : Addr} {cs : List Ck} (h : CbAt K H b cs) (k : ∀ c o, H c = some o → (∀ ys, o ≠ .lst ys) → H' c = some o) : CbAt K H' b cs :=
  let ⟨dx, t, xs, h1, h2, h3⟩ := h; ⟨dx, t, xs, k _ _ h1 (fun ys z => by cases z), k _ _ h2 (fun ys z => by cases z), h3.keep k⟩
theorem CbAt.ex {K : PySem.W.Frag} {H H' : Hp} {b : Addr} {cs : List Ck} (h : CbAt K H b cs) (e : Ex H H') : CbAt K H' b cs := h.keep fun c o z _ => e c o z
theorem CbAt.set {K : PySem.W.Frag} {H : Hp} {b p : Addr} {cs : List Ck} {ys : List V} {o : HO} (h : CbAt K H b cs) (hp : H p = some (.lst ys)) : CbAt K (upd H p o) b cs :=
  h.keep fun c q z n => (upd_ne fun e => n ys (by rw [e, hp] at z; exact (Option.some.inj z).symm)).trans z
def CbV (K : PySem.W.Frag) (H : Hp) (y : V) (cs : List Ck) : Prop := ∃ b, y = .ref b ∧ CbAt K H b cs
/-- a value that is due -/
def DuC (H : Hp) (y : V) (cs : List Ck) : Prop := ∃ d u xs, y = .ref d ∧ H d = some (.tup [.str "cakes", .ref u]) ∧ H u = some (.tup xs) ∧ CsAt H xs cs
theorem DuC.keep {H H' : Hp} {y : V} {cs : List Ck} (h : DuC H y cs) (k : ∀ c o, H c = some o → (∀ ys, o ≠ .lst ys) → H' c = some o) : DuC H' y cs :=
  let ⟨d, u, xs, e, h1, h2, h3⟩ := h; ⟨d, u, xs, e, k _ _ h1 (fun ys z => by cases z), k _ _ h2 (fun ys z => by cases z), h3.keep k⟩
theorem DuC.ex {H H' : Hp} {y : V} {cs : List Ck} (h : DuC H y cs) (e : Ex H H') : DuC H' y cs := h.keep fun c o z _ => e c o z
/-- the squares of some cakes -/
def sqs (cs : List Ck) : Int := (cs.map fun c => c.1 * c.2).sum
def OkK (c : Ck) : Prop := 1 ≤ c.1 ∧ c.1 ≤ 12 ∧ 1 ≤ c.2 ∧ c.2 ≤ 12
def OkC (cs : List Ck) : Prop := (∀ c ∈ cs, OkK c) ∧ sqs cs ≤ 144
theorem sqs_app (a b : List Ck) : sqs (a ++ b) = sqs a + sqs b := by
  unfold sqs
  rw [List.map_append, List.sum_append]
theorem sqs_cons (c : Ck) (b : List Ck) : sqs (c :: b) = c.1 * c.2 + sqs b := by
  unfold sqs
  rw [List.map_cons, List.sum_cons]
theorem okK_sq {c : Ck} (h : OkK c) : 1 ≤ c.1 * c.2 ∧ c.1 * c.2 ≤ 144 := by
  obtain ⟨a, b, d, e⟩ := h
  refine ⟨?_, ?_⟩
  · have := Int.mul_le_mul a d (by decide) (by omega)
    omega
  · have := Int.mul_le_mul b e (by omega) (by omega)
    omega
theorem len_sqs : ∀ {cs : List Ck}, (∀ c ∈ cs, OkK c) → (cs.length : Int) ≤ sqs cs
  | [], _ => by decide
  | c :: cs, h => by
    have h1 := okK_sq (h c (List.mem_cons_self ..))
    have h2 := len_sqs fun c m => h c (List.mem_cons_of_mem _ m)
    rw [sqs_cons, List.length_cons]
    omega
theorem OkC.len {cs : List Ck} (h : OkC cs) : cs.length ≤ 144 := by
  have := len_sqs h.1
  have := h.2
  omega
/-- the pairs of pieces of a cake -/
def cutsC (s : Str) (c : Ck) : List (Ck × Ck) := if s = "left" then (List.range (c.2 - 1).toNat).map fun (j : Nat) => ((c.1, 1 + (j : Int)), (c.1, c.2 - (1 + (j : Int)))) else (List.range (c.1 - 1).toNat).map fun (j : Nat) => ((1 + (j : Int), c.2), (c.1 - (1 + (j : Int)), c.2))
def mvAtC (s : Str) (cs : List Ck) (i : Nat) : List (List Ck) := (cutsC s (cs.getD i (1, 1))).map fun two => cs.take i ++ [two.1, two.2] ++ cs.drop (i + 1)
def mvsC (s : Str) (cs : List Ck) : List (List Ck) := (List.range cs.length).flatMap (mvAtC s cs)
theorem cuts_ok {s : Str} {c : Ck} (h : OkK c) {two : Ck × Ck} (m : two ∈ cutsC s c) : OkK two.1 ∧ OkK two.2 ∧ two.1.1 * two.1.2 + two.2.1 * two.2.2 = c.1 * c.2 := by
  obtain ⟨a, b, d, e⟩ := h
  unfold cutsC at m
  split at m
  · obtain ⟨j, hj, rfl⟩ := List.mem_map.mp m
    have hj := List.mem_range.mp hj
    refine ⟨⟨a, b, by show 1 ≤ 1 + (j : Int); omega, by show 1 + (j : Int) ≤ 12; omega⟩, ⟨a, b, by show 1 ≤ c.2 - (1 + (j : Int)); omega, by show c.2 - (1 + (j : Int)) ≤ 12; omega⟩, ?_⟩
    show c.1 * (1 + (j : Int)) + c.1 * (c.2 - (1 + (j : Int))) = c.1 * c.2
    rw [← Int.mul_add]
    congr 1
    omega
  · obtain ⟨j, hj, rfl⟩ := List.mem_map.mp m
    have hj := List.mem_range.mp hj
    refine ⟨⟨by show 1 ≤ 1 + (j : Int); omega, by show 1 + (j : Int) ≤ 12; omega, d, e⟩, ⟨by show 1 ≤ c.1 - (1 + (j : Int)); omega, by show c.1 - (1 + (j : Int)) ≤ 12; omega, d, e⟩, ?_⟩
    show (1 + (j : Int)) * c.2 + (c.1 - (1 + (j : Int))) * c.2 = c.1 * c.2
    rw [← Int.add_mul]
    congr 1
    omega
theorem cuts_len {s : Str} {c : Ck} (h : OkK c) : (cutsC s c).length ≤ 11 := by
  obtain ⟨a, b, d, e⟩ := h
  unfold cutsC
  split
  · rw [List.length_map, List.length_range]; omega
  · rw [List.length_map, List.length_range]; omega
theorem get_mem {α : Type} {cs : List α} {i : Nat} (h : i < cs.length) (d : α) : cs.getD i d ∈ cs ∧ cs = cs.take i ++ [cs.getD i d] ++ cs.drop (i + 1) := by
  have e : cs.getD i d = cs[i] := by rw [List.getD_eq_getElem?_getD, List.getElem?_eq_getElem h]; rfl
  refine ⟨by rw [e]; exact List.getElem_mem h, ?_⟩
  rw [e, List.append_assoc]
  show cs = cs.take i ++ (cs[i] :: cs.drop (i + 1))
  rw [← List.drop_eq_getElem_cons h, List.take_append_drop]
theorem ok_mv {s : Str} {cs : List Ck} (ok : OkC cs) {i : Nat} (hi : i < cs.length) {two : Ck × Ck} (m : two ∈ cutsC s (cs.getD i (1, 1))) : OkC (cs.take i ++ [two.1, two.2] ++ cs.drop (i + 1)) := by
  obtain ⟨gm, ge⟩ := get_mem hi (1, 1)
  obtain ⟨o1, o2, o3⟩ := cuts_ok (ok.1 _ gm) m
  refine ⟨fun c m => ?_, ?_⟩
  · rcases List.mem_append.mp m with m | m
    · rcases List.mem_append.mp m with m | m
      · exact ok.1 c (List.mem_of_mem_take m)
      · rcases List.mem_cons.mp m with rfl | m
        · exact o1
        · rw [List.mem_singleton.mp m]; exact o2
    · exact ok.1 c (List.mem_of_mem_drop m)
  · have h := ok.2
    rw [ge, sqs_app, sqs_app, sqs_cons] at h
    rw [sqs_app, sqs_app, sqs_cons, sqs_cons]
    have z : sqs [] = 0 := rfl
    omega
theorem mvs_ok {s : Str} {cs : List Ck} (ok : OkC cs) : ∀ m ∈ mvsC s cs, OkC m := by
  intro m h
  obtain ⟨i, hi, h⟩ := List.mem_flatMap.mp h
  obtain ⟨two, ht, rfl⟩ := List.mem_map.mp h
  exact ok_mv ok (List.mem_range.mp hi) ht
theorem mvs_len {s : Str} {cs : List Ck} (ok : OkC cs) (n : Nat) (h : n ≤ cs.length) : ((List.range n).flatMap (mvAtC s cs)).length ≤ 11 * n := by
  induction n with
  | zero => exact Nat.le_refl _
  | succ n ih =>
    have h1 := ih (by omega)
    rw [List.range_succ, List.flatMap_append, List.length_append]
    have h2 : ([n].flatMap (mvAtC s cs)).length ≤ 11 := by
      rw [List.flatMap_cons, List.flatMap_nil, List.append_nil]
      unfold mvAtC
      rw [List.length_map]
      exact cuts_len (ok.1 _ (get_mem (show n < cs.length by omega) (1, 1)).1)
    omega
end Mine
namespace Mine
open PySem PySem.Spec PyProof.Rows L2
open Evl (Ex)
/-- two pieces -/
def TwAt (H : Hp) (y : V) (two : Ck × Ck) : Prop := ∃ a y1 y2, y = .ref a ∧ H a = some (.tup [y1, y2]) ∧ CkAt H y1 two.1 ∧ CkAt H y2 two.2
theorem TwAt.keep {H H' : Hp} {y : V} {c : Ck × Ck} (h : TwAt H y c) (k : ∀ c o, H c = some o → (∀ ys, o ≠ .lst ys) → H' c = some o) : TwAt H' y c := let ⟨a, y1, y2, r, z, h1, h2⟩ := h; ⟨a, y1, y2, r, k _ _ z (fun ys z => by cases z), h1.keep k, h2.keep k⟩
theorem TwAt.ex {H H' : Hp} {y : V} {c : Ck × Ck} (h : TwAt H y c) (e : Ex H H') : TwAt H' y c := h.keep fun c o z _ => e c o z
theorem CsAt.mv {H : Hp} {xs : List V} {cs : List Ck} {y1 y2 : V} {two : Ck × Ck} (R : CsAt H xs cs) (i : Nat) (h1 : CkAt H y1 two.1) (h2 : CkAt H y2 two.2) : CsAt H (xs.take i ++ [y1, y2] ++ xs.drop (i + 1)) (cs.take i ++ [two.1, two.2] ++ cs.drop (i + 1)) :=
  ((R.take i).app (AllAt.app (xs := [y1]) (ys := [y2]) (cs := [two.1]) (ds := [two.2]) (.one h1) (.one h2))).app (R.drop (i + 1))
theorem CbV.keep {K : PySem.W.Frag} {H H' : Hp} {y : V} {cs : List Ck} (h : CbV K H y cs) (k : ∀ c o, H c = some o → (∀ ys, o ≠ .lst ys) → H' c = some o) : CbV K H' y cs := let ⟨b, r, z⟩ := h; ⟨b, r, z.keep k⟩
theorem CbV.ex {K : PySem.W.Frag} {H H' : Hp} {y : V} {cs : List Ck} (h : CbV K H y cs) (e : Ex H H') : CbV K H' y cs := h.keep fun c o z _ => e c o z
abbrev BsC (K : PySem.W.Frag) (H : Hp) (ys : List V) (css : List (List Ck)) : Prop := AllAt (CbV K) H ys css
abbrev DsC (H : Hp) (ys : List V) (css : List (List Ck)) : Prop := AllAt DuC H ys css
end Mine
namespace Mine
open PySem PySem.Spec PyProof.Rows L2
open Evl (Ex)
/-- the data of a cake -/
def ckD (c : Ck) : PyData := .tuple ([c.1, c.2].map .int)
theorem CkAt.dp {K : PySem.W.Frag} {H : Hp} {y : V} {c : Ck} (h : CkAt H y c) : Dp K H y (ckD c) := by
  obtain ⟨a, rfl, ha⟩ := h
  exact .tup (k_st ha) (dp_ints [c.1, c.2])
theorem eqv_ck (c d : Ck) : (ckD c).eqv (ckD d) = decide (c = d) := by
  unfold ckD
  simp only [PyData.eqv, PySem.W.ked_eqvAll]
  obtain ⟨a, b⟩ := c
  obtain ⟨e, f⟩ := d
  by_cases h1 : a = e <;> by_cases h2 : b = f <;> simp [h1, h2]
theorem deep_ck (c : Ck) : (ckD c).depth = 1 := by
  unfold ckD
  simp only [PyData.depth, deep_ints]
theorem lay_ck (c : Ck) : (ckD c).canLay0 = true := by
  unfold ckD
  simp only [PyData.canLay0, lay_ints]
theorem shaped_ck (c : Ck) : SeqAt.shaped (ckD c) = true := by
  unfold SeqAt.shaped
  rw [lay_ck, decide_eq_true (by rw [deep_ck]; decide)]
  rfl
theorem k_neCk {K : PySem.W.Frag} {H : Hp} {Q : VK} {x y : V} {c d : Ck} (f1 : CkAt H x c) (f2 : CkAt H y d) (q : Q (.bl (!decide (c = d))) H) : rNeD K x y H Q :=
  ⟨ckD c, ckD d, f1.dp, f2.dp, shaped_ck c, shaped_ck d, by rw [eqv_ck]; exact q⟩
theorem AllAt.tail {α : Type} {P : Hp → V → α → Prop} {H : Hp} {y : V} {ys : List V} {c : α} {cs : List α} (h : AllAt P H (y :: ys) (c :: cs)) : P H y c ∧ AllAt P H ys cs := by
  refine ⟨?_, by have := h.1; rw [List.length_cons, List.length_cons] at this; omega, fun i r' q => ?_⟩
  · obtain ⟨y', h1, h2⟩ := h.2 0 c rfl
    cases h1; exact h2
  · obtain ⟨y', h1, h2⟩ := h.2 (i + 1) r' q
    exact ⟨y', h1, h2⟩
theorem CsAt.dp {K : PySem.W.Frag} {H : Hp} : ∀ {xs : List V} {cs : List Ck}, CsAt H xs cs → DpAll K H xs (cs.map ckD)
  | [], [], _ => .nil
  | y :: ys, r :: rs, h => .cons h.tail.1.dp (CsAt.dp h.tail.2)
  | [], _ :: _, h => absurd h.1 (by simp)
  | _ :: _, [], h => absurd h.1 (by simp)
theorem deep_cks : ∀ rs : List Ck, PyData.depthAll (rs.map ckD) ≤ 1
  | [] => by simp only [List.map_nil, PyData.depthAll]; decide
  | g :: rs => by
    have h := deep_cks rs
    simp only [List.map_cons, PyData.depthAll, deep_ck]
    omega
theorem lay_cks : ∀ rs : List Ck, PyData.canLayAll0 (rs.map ckD) = true
  | [] => rfl
  | g :: rs => by
    simp only [List.map_cons, PyData.canLayAll0, lay_ck, lay_cks rs]
    rfl
theorem shaped_cks (rs : List Ck) : SeqAt.shaped (.list (rs.map ckD)) = true := by
  have h := deep_cks rs
  have hd : (PyData.list (rs.map ckD)).depth ≤ 64 := by simp only [PyData.depth]; omega
  have hl : (PyData.list (rs.map ckD)).canLay0 = true := by simp only [PyData.canLay0]; exact lay_cks rs
  unfold SeqAt.shaped
  rw [hl, decide_eq_true hd]
  rfl
theorem eqvAll_cks : ∀ rs : List Ck, PyData.eqvAll (rs.map ckD) (rs.map ckD) = true
  | [] => by simp only [List.map_nil, PyData.eqvAll]
  | g :: rs => by
    simp only [List.map_cons, PyData.eqvAll, eqvAll_cks rs, eqv_ck]
    simp
theorem k_neCks {K : PySem.W.Frag} {H : Hp} {Q : VK} {a b : Addr} {xs : List V} {cs : List Ck} (h1 : SqL K H a xs) (h2 : SqL K H b xs) (R : CsAt H xs cs) (q : Q (.bl false) H) : rNeD K (.ref a) (.ref b) H Q :=
  ⟨_, _, .lst h1 R.dp, .lst h2 R.dp, shaped_cks cs, shaped_cks cs, by rw [PyData.eqv, eqvAll_cks]; exact q⟩
/-- the parts -/
def partsC (cs : List Ck) : List (List Ck) := (cs.filter fun c => !decide (c = (1, 1))).map fun c => [c]
theorem parts_len (cs : List Ck) : (partsC cs).length ≤ cs.length := by
  unfold partsC
  rw [List.length_map]
  exact List.length_filter_le _ _
theorem parts_take {cs : List Ck} {i : Nat} {c : Ck} (h : cs[i]? = some c) : partsC (cs.take (i + 1)) = partsC (cs.take i) ++ (if c = (1, 1) then [] else [[c]]) := by
  unfold partsC
  rw [List.take_add_one, h, List.filter_append, List.map_append]
  congr 1
  show ([c].filter fun c => !decide (c = (1, 1))).map _ = _
  by_cases z : c = (1, 1)
  · rw [if_pos z, List.filter_cons, decide_eq_true z]; rfl
  · rw [if_neg z, List.filter_cons, decide_eq_false z]; rfl
theorem okC_one {c : Ck} (h : OkK c) : OkC [c] := by
  refine ⟨fun d m => by rw [List.mem_singleton.mp m]; exact h, ?_⟩
  have := (okK_sq h).2
  rw [sqs_cons]
  have z : sqs [] = 0 := rfl
  omega
end Mine
namespace Mine
open PySem PySem.Spec PyProof.Rows L2
open Evl (Ex)
def cakeF (ds : List Int) (most : Int) (i : Nat) : Ck := (1 + ds.getD (1 + 2 * (i : Int)).toNat 0 % most, 1 + ds.getD (2 + 2 * (i : Int)).toNat 0 % most)
def ckF (ds : List Int) (most : Int) : Nat → List Ck × Int
  | 0 => ([], 0)
  | i + 1 => if (ckF ds most i).2 + (cakeF ds most i).1 * (cakeF ds most i).2 ≤ 144 then ((ckF ds most i).1 ++ [cakeF ds most i], (ckF ds most i).2 + (cakeF ds most i).1 * (cakeF ds most i).2) else ckF ds most i
theorem cakeF_ok {ds : List Int} {most : Int} (hm : most = 12 ∨ most = 4) (i : Nat) : OkK (cakeF ds most i) := by
  unfold OkK cakeF
  rcases hm with rfl | rfl <;> refine ⟨?_, ?_, ?_, ?_⟩ <;> (show _ ≤ _; omega)
theorem ckF_ok {ds : List Int} {most : Int} (hm : most = 12 ∨ most = 4) : ∀ i, (∀ c ∈ (ckF ds most i).1, OkK c) ∧ sqs (ckF ds most i).1 = (ckF ds most i).2 ∧ (ckF ds most i).2 ≤ 144 ∧ (ckF ds most i).1.length ≤ i
  | 0 => ⟨fun c m => absurd (show c ∈ ([] : List Ck) from m) (by simp), rfl, (show (0 : Int) ≤ 144 by decide), Nat.le_refl _⟩
  | i + 1 => by
    obtain ⟨h1, h2, h3, h4⟩ := ckF_ok hm i
    unfold ckF
    split
    · rename_i h
      refine ⟨fun c m => ?_, ?_, h, ?_⟩
      · rcases List.mem_append.mp m with m | m
        · exact h1 c m
        · rw [List.mem_singleton.mp m]; exact cakeF_ok hm i
      · show sqs ((ckF ds most i).1 ++ [cakeF ds most i]) = _
        rw [sqs_app, sqs_cons, h2]
        have z : sqs [] = 0 := rfl
        omega
      · show ((ckF ds most i).1 ++ [_]).length ≤ _
        rw [List.length_append, List.length_singleton]; omega
    · exact ⟨h1, h2, h3, by omega⟩
def mostF (ds : List Int) : Int := if ds.getD (29 : Int).toNat 0 % 3 = 0 then 12 else 4
def cakesF (c : Int) : List Ck := (ckF (dgF c 30) (mostF (dgF c 30)) ((dgF c 30).getD (0 : Int).toNat 0 % 15).toNat).1
theorem mostF_or (ds : List Int) : mostF ds = 12 ∨ mostF ds = 4 := by
  unfold mostF
  split
  · exact Or.inl rfl
  · exact Or.inr rfl
theorem cakesF_ok (c : Int) : OkC (cakesF c) := by
  obtain ⟨h1, h2, h3, h4⟩ := ckF_ok (ds := dgF c 30) (mostF_or (dgF c 30)) ((dgF c 30).getD (0 : Int).toNat 0 % 15).toNat
  exact ⟨h1, by unfold cakesF; rw [h2]; exact h3⟩
theorem cakesF_len (c : Int) : (cakesF c).length ≤ 14 := by
  obtain ⟨h1, h2, h3, h4⟩ := ckF_ok (ds := dgF c 30) (mostF_or (dgF c 30)) ((dgF c 30).getD (0 : Int).toNat 0 % 15).toNat
  unfold cakesF
  omega
theorem k_ifv {p : Prop} [Decidable p] {a b : Int} {σ : L2.St} {H : Hp} {Q : VK} (q : Q (.int (if p then a else b)) H) : if decide p = true then tC (.int a) σ H Q else tC (.int b) σ H Q := by
  by_cases h : p
  · rw [if_pos h] at q; rw [if_pos (decide_eq_true h)]; exact q
  · rw [if_neg h] at q; rw [if_neg (by simpa using h)]; exact q
end Mine
namespace Mine
open PySem PySem.Spec PyProof.Rows L2
open Evl (Ex)
def cutAt (s : Str) (c : Ck) (j : Nat) : Ck × Ck := if s = "left" then ((c.1, 1 + (j : Int)), (c.1, c.2 - (1 + (j : Int)))) else ((1 + (j : Int), c.2), (c.1 - (1 + (j : Int)), c.2))
theorem cutsC_at (s : Str) (c : Ck) : cutsC s c = (List.range ((if s = "left" then c.2 else c.1) - 1).toNat).map (cutAt s c) := by
  unfold cutsC
  by_cases z : s = "left"
  · rw [if_pos z, if_pos z]
    congr 1
    funext j
    unfold cutAt
    rw [if_pos z]
  · rw [if_neg z, if_neg z]
    congr 1
    funext j
    unfold cutAt
    rw [if_neg z]
theorem k_ifvar {p : Prop} [Decidable p] {i j : Nat} {a b : Int} {σ : L2.St} {H : Hp} {Q : VK} (hi : σ[i]? = some (some (.int a))) (hj : σ[j]? = some (some (.int b))) (q : Q (.int (if p then a else b)) H) : if decide p = true then tVar i σ H Q else tVar j σ H Q := by
  by_cases h : p
  · rw [if_pos h] at q; rw [if_pos (decide_eq_true h)]; exact k_var hi q
  · rw [if_neg h] at q; rw [if_neg (by simpa using h)]; exact k_var hj q
end Mine
namespace Mine
open PySem PySem.Spec PyProof.Rows L2
open Evl (Ex)
theorem sqs_rep : ∀ n : Nat, sqs (List.replicate n ((1, 1) : Ck)) = (n : Int)
  | 0 => rfl
  | n + 1 => by
    rw [List.replicate_succ, sqs_cons, sqs_rep n]
    show (1 : Int) * 1 + (n : Int) = _
    omega
theorem ok_rep {n : Nat} {c : Ck} (m : c ∈ List.replicate n ((1, 1) : Ck)) : OkK c := by
  rw [(List.mem_replicate.mp m).2]
  exact ⟨by decide, by decide, by decide, by decide⟩
theorem idx_mod {n : Nat} (h : 1 ≤ n) (c : Int) : ∃ k : Nat, c % (n : Int) = (k : Int) ∧ k < n := by
  have h1 := Int.emod_nonneg c (b := (n : Int)) (by omega)
  have h2 := Int.emod_lt_of_pos c (b := (n : Int)) (by omega)
  exact ⟨(c % (n : Int)).toNat, by omega, by omega⟩
end Mine
namespace Mine
open PySem PySem.Spec PyProof.Rows L2
open Evl (Ex)
theorem n_repA {K : PySem.W.Frag} {H : Hp} {Q : VK} {l : Addr} {k : Int} {xs : List V} (h : H l = some (.tup xs)) (ne : xs ≠ []) (k0 : 0 ≤ k) (k1 : k ≤ 1000) (x1 : xs.length ≤ 1000) (q : ∀ p H', Ex H H' → H' p = some (.tup (List.replicate k.toNat xs).flatten) → Q (.ref p) H') : rRepA K (.ref l) (.int k) H Q := by
  refine ⟨l, k, xs, rfl, rfl, k_st h, ne, k0, k1, x1, fun e => q l H (Evl.Ex.refl _) ?_, fun _ p np => q p _ (Evl.Ex.new np) upd_same⟩
  subst e
  rw [h]
  show some (HO.tup xs) = some (HO.tup (xs ++ []))
  rw [List.append_nil]
/-- the part of the dues that are parts -/
theorem due_parts {K : PySem.W.Frag} {σ : L2.St} {Q : VK} {H : Hp} {u : Addr} {xs : List V} {cs : List Ck} {i : Nat} (ht : H u = some (.tup xs)) (R : CsAt H xs cs) (l144 : cs.length ≤ 144)
    (w : ∀ x, wipe ((wipe σ [i]).set i (some x)) [i] = wipe σ [i]) (v : ∀ x, ((wipe σ [i]).set i (some x))[i]? = some (some x))
    (q : ∀ D ys H', H D = none → Ex H H' → H' D = some (.lst ys) → DsC H' ys (partsC cs) → Q (.ref D) H') :
    lcR (gName i) (tTest (tOp (rNeD K) (tVar i) (tTup (tCons (tC (.int 1)) (tCons (tC (.int 1)) tNil))))) (tTup (tCons (tC (.str "cakes")) (tCons (tTup (tCons (tVar i) tNil)) tNil))) [i] σ Q (Itt K u) H := by
  have xl := R.1
  intro D hD
  refine lc_tup (K := K) (a := u) (xs := xs) (fun j H' => ∃ ys, Ex H H' ∧ H' D = some (.lst ys) ∧ DsC H' ys (partsC (cs.take j))) ⟨[], Evl.Ex.new hD, upd_same, .nil⟩ (fun i H' _ ⟨_, e, _⟩ => k_st (e _ _ ht)) (fun j x H' hx p => ?_) (fun H' p => ?_)
  · obtain ⟨ys, e, hd, bs⟩ := p
    have hi := (List.getElem?_eq_some_iff.mp hx).1
    have gc := List.getElem?_eq_getElem (l := cs) (i := j) (by omega)
    obtain ⟨x', hx', ck⟩ := R.2 j _ gc
    rw [hx] at hx'
    injection hx' with hx'
    subst hx'
    have pt := parts_take gc
    generalize cs[j] = c at *
    have yl : ys.length ≤ j := by
      rw [bs.1]
      refine Nat.le_trans (parts_len _) ?_
      rw [List.length_take]; omega
    refine ⟨w _, ?_⟩
    rw [pt]
    refine k_test (k_op (k_var (v _) (k_tup (k_cons (k_c (k_cons (k_c (k_nil ?_))))))))
    refine ⟨fits (Nat.le_of_ble_eq_true rfl), fun p1 np1 => ?_⟩
    have e1 := Evl.Ex.new (o := HO.tup [V.int 1, V.int 1]) np1
    have s1 : upd H' p1 (HO.tup [V.int 1, V.int 1]) p1 = some (HO.tup [V.int 1, V.int 1]) := upd_same
    generalize upd H' p1 (HO.tup [V.int 1, V.int 1]) = H1 at *
    have hd1 := e1 _ _ hd
    have bs1 := bs.imp fun y c q => q.ex e1
    have ck1 := (ck.ex e).ex e1
    refine k_neCk (d := (1, 1)) ck1 ⟨p1, rfl, s1⟩ ⟨_, rfl, ?_⟩
    by_cases z : c = (1, 1)
    · rw [decide_eq_true z, if_pos z, List.append_nil, if_neg (show ¬ (!true) = true by decide)]
      exact ⟨ys, e.trans e1, hd1, bs1⟩
    · rw [decide_eq_false z, if_neg z]
      rw [if_pos (show (!false) = true from rfl)]
      refine k_tup (k_cons (k_c (k_cons (k_tup (k_cons (k_var (v _) (k_nil ?_)))))))
      refine ⟨fits (Nat.le_of_ble_eq_true rfl), fun p2 np2 => ?_⟩
      have e2 := Evl.Ex.new (o := HO.tup [x]) np2
      have s2 : upd H1 p2 (HO.tup [x]) p2 = some (HO.tup [x]) := upd_same
      generalize upd H1 p2 (HO.tup [x]) = H2 at *
      refine k_nil ?_
      refine ⟨fits (Nat.le_of_ble_eq_true rfl), fun p3 np3 => ?_⟩
      have e3 := Evl.Ex.new (o := HO.tup [V.str "cakes", V.ref p2]) np3
      have s3 : upd H2 p3 (HO.tup [V.str "cakes", V.ref p2]) p3 = some (HO.tup [V.str "cakes", V.ref p2]) := upd_same
      generalize upd H2 p3 (HO.tup [V.str "cakes", V.ref p2]) = H3 at *
      have e23 := e2.trans e3
      have hd3 := e23 _ _ hd1
      have bs3 := (bs1.imp fun y c q => q.ex e23).app (.one (P := DuC) (c := [c]) ⟨p3, p2, _, rfl, s3, e3 _ _ s2, .one (ck1.ex e23)⟩)
      refine ⟨ys, hd3, fits' (by omega), ys ++ [V.ref p3], Evl.Ex.mut ((e.trans e1).trans e23) hD, upd_same, ?_⟩
      exact bs3.imp fun y c q => q.keep (H' := upd H3 D (HO.lst (ys ++ [V.ref p3]))) fun c o q n => (upd_ne (fun e => n _ (by rw [e, hd3] at q; exact (Option.some.inj q).symm))).trans q
  · obtain ⟨ys, e, hd, bs⟩ := p
    rw [xl, List.take_of_length_le (Nat.le_refl _)] at bs
    exact q D ys H' hD e hd bs
end Mine
namespace Mine
open PySem PySem.Spec PyProof.Rows L2
open PySem.AutoSeq1
/-! enumerate(a text of signs below 128) -/
/-- a text of signs below 128 -/
def Asc7 (x : Str) : Prop := strIterType x = "str_ascii_iterator"
def IteS (x : Str) : It :=
  ⟨fun i H => i < x.cps.size, fun i H v H' => ∃ T c, v = .ref T ∧ H T = none ∧ H' = upd H T (.tup [.int (i : Nat), .str ⟨#[c]⟩]) ∧ x.cps[i]? = some c, fun i H => x.cps.size ≤ i⟩
theorem turn_enumS {P : Program} {w : World} {K : PySem.W.Frag} {elts : List Expr} {kk : Nat} {tpos : Pos} (x : Str) (t : Tok) (e it : Addr) :
    Turn P w K (.Tuple elts kk tpos) (IteS x) [e, it] e (fun i h => (∃ old, IsEnum h e it ((i : Nat) : Int) old) ∧ h.IsStrIter it "str_ascii_iterator" x t i ∧ e ≠ it ∧ i ≤ x.cps.size) where
  mem := by simp
  obj := fun i h st b hb => by
    obtain ⟨⟨old, he⟩, ⟨o, ho, hc, hd⟩, _⟩ := st
    rcases (show b = e ∨ b = it by simpa using hb) with z | z
    · rw [z]; exact ⟨_, he, fun v q => nomatch q⟩
    · rw [z]; exact ⟨o, ho, fun v q => by rw [hd] at q; cases q⟩
  keep := fun i h h' st k => let ⟨⟨old, he⟩, ⟨o, ho, hc, hd⟩, hne⟩ := st; ⟨⟨old, k e (by simp) _ he⟩, ⟨o, k it (by simp) o ho, hc, hd⟩, hne⟩
  item := by
    intro X hP hw hK hc i pins s σ H E I hf st hg
    subst hP hw hK
    obtain ⟨⟨old, he⟩, hit, hne, hle⟩ := st
    have hi : i < x.cps.size := hg
    have hel : e < s.heap.objs.size := Heap.lt_size he
    have hil : it < s.heap.objs.size := by obtain ⟨_, q, _⟩ := hit; exact Heap.lt_size q
    have D := Draws.strAscii (prog := X.prog) (w := X.w) (A := X.A.in1) (I.ok.hd hc) it x t
    refine wpAny_pyNext_enum_itemC D he hit hi hne (by simp [hne]) fun y h' tk hy ho st' hT hsz hk => ?_
    refine ⟨_, rfl, wpAny_letOwnedTupleGo_enum (s := { s with heap := h', toks := tk + 1 }) ho fun h'' he' sb => ?_⟩
    have hT2 : h''.get? s.heap.objs.size = some { cls := .type "tuple", data := .seq #[.int i tk, y] } := (sb.2 _ (Nat.ne_of_gt hel)).trans hT
    obtain ⟨c, u, hcx, ey⟩ := hy
    subst ey
    have new : ObjOk X.prog X.w (upd H s.heap.objs.size (.tup [.int (i : Nat), .str ⟨#[c]⟩])) h'' s.heap.objs.size (.tup [.int (i : Nat), .str ⟨#[c]⟩]) :=
      ⟨by show 2 ≤ sizeLine; decide, [.int i tk, .str ⟨#[c]⟩ u], .cons ⟨_, rfl⟩ (.cons ⟨_, rfl⟩ .nil), ⟨_, hT2, rfl, _, rfl⟩⟩
    have I1 : Inv X pins σ (upd H s.heap.objs.size (.tup [.int (i : Nat), .str ⟨#[c]⟩])) { s with heap := h'', toks := tk + 1 } :=
      I.turnedNew (ch := [e, it]) (fun b ob hb q => (sb.2 b (fun z => hb (by simp [z]))).trans (hk b ob (fun z => hb (by simp [z])) (fun z => hb (by simp [z])) q)) hf (Nat.le_refl _) new
    refine ⟨.ref s.heap.objs.size, _, I1, rfl, ⟨_, c, rfl, I.hok.fresh (Nat.le_refl _), rfl, hcx⟩, ⟨⟨.str ⟨#[c]⟩ u, ?_⟩, ?_, hne, hi⟩, fun b hb => ?_⟩
    · have e1 : ((i + 1 : Nat) : Int) = (i : Int) + 1 := by omega
      rw [e1]; exact he'
    · obtain ⟨o, ho2, hc2, hd2⟩ := st'
      exact ⟨o, (sb.2 it (Ne.symm hne)).trans ho2, hc2, hd2⟩
    · have hb' : b < s.heap.objs.size := by
        rcases (show b = e ∨ b = it by simpa using hb) with z | z
        · rw [z]; exact hel
        · rw [z]; exact hil
      rw [upd_ne (Nat.ne_of_lt hb')]
      exact (hf b hb).1
  done := by
    intro X hP hw hK hc i pins s σ H E I hf st hg
    subst hP hw hK
    obtain ⟨⟨old, he⟩, hit, hne, hle⟩ := st
    have hi : i = x.cps.size := Nat.le_antisymm hle hg
    subst hi
    obtain ⟨f0, f1, f2, f3, f4, f5⟩ := hf it (by simp)
    have D := Draws.strAscii (prog := X.prog) (w := X.w) (A := X.A.in1) (I.ok.hd hc) it x t
    exact wpAny_pyNext_enum_endD D he hit fun h' eb => ⟨rfl, I.turned (t' := s.toks) (fun b o hb q => eb b o hb q) f0 f1 f3 f4 f5⟩
  self := fun A i s Q E st h => let ⟨⟨_, he⟩, _⟩ := st; wpAny_pyIter_enum he h
def iEnumS (ta : TA) : TI := fun σ H R => ta σ H fun vs H1 => ∃ x, vs = [.str x] ∧ Asc7 x ∧ R (IteS x) H1
theorem pi_enumS {X : Cx} {e : Expr} {ta : TA} {p pos tpos : Pos} {elts : List Expr} {kk : Nat} (hg : Gl X "enumerate") (hm : X.mg "enumerate" = none) (ha : PA X [e] ta) (hs : starEach [e] X.env = [(false, eval e X.env)] := by rfl) :
    PI X (.Tuple elts kk tpos) (.Call (.Name "enumerate" p) [e] [] pos) (iEnumS ta) := by
  constructor
  intro pins s σ H R I h
  refine Call_ (ld_blt I hg hm boot_enumerate (PyProof.Rows.callWith_type1 (thn (ha.run pos pins s σ H _ I h) ?_) hs rfl))
  rintro us s1 ⟨vs, H1, I1, r1, x, rfl, hx, q⟩
  cases r1 with
  | cons r rr =>
    cases rr
    obtain ⟨t, rfl⟩ := r
    refine enum1_begins (begins_text x t) trivial fun h' he hit hk => wpAny_pyIter_enum he ?_
    have I2 : Inv X pins σ H1 { s1 with heap := h' } := I1.kept (t' := s1.toks) hk
    refine ⟨s1.heap.objs.size + 1, [s1.heap.objs.size + 1, s1.heap.objs.size], _, _, H1, rfl, I2, turn_enumS x t (s1.heap.objs.size + 1) s1.heap.objs.size, ⟨⟨.none, he⟩, ⟨_, hit, by rw [← hx], rfl⟩, Nat.succ_ne_self _, Nat.zero_le _⟩, fun b hb => ?_, q⟩
    have hle : s1.heap.objs.size ≤ b := by
      rcases (show b = s1.heap.objs.size + 1 ∨ b = s1.heap.objs.size by simpa using hb) with z | z
      · rw [z]; exact Nat.le_add_right _ _
      · rw [z]; exact Nat.le_refl _
    exact I1.fpOk hle (I1.hok.fresh hle)
theorem for_enumS {g : TG} {tb : TS} {D : Ends} {σ : L2.St} {H : Hp} {x : Str} (Pv : Nat → L2.St → Hp → Prop) (h0 : Pv 0 σ H)
    (hs : ∀ i c σ' H' T, x.cps[i]? = some c → Pv i σ' H' → H' T = none → g (.ref T) σ' (upd H' T (.tup [.int (i : Nat), .str ⟨#[c]⟩])) fun σ2 H2 => tb { D with nx := Pv (i + 1), ct := Pv (i + 1), bk := D.nx } σ2 H2) (hd : ∀ σ' H', Pv x.cps.size σ' H' → D.nx σ' H') : forK g tb D σ (IteS x) H := by
  refine ⟨fun i m σ H => i ≤ x.cps.size ∧ m = x.cps.size - i ∧ Pv i σ H, ⟨x.cps.size, Nat.zero_le _, by omega, h0⟩, ?_⟩
  rintro i m σ H ⟨hi, rfl, p⟩
  rcases Nat.lt_or_ge i x.cps.size with h | h
  · refine Or.inr ⟨h, Pv (i + 1), fun σ' H' p' => ⟨x.cps.size - (i + 1), by omega, h, rfl, p'⟩, ?_⟩
    rintro v H' ⟨T, c, rfl, hT, rfl, hx⟩
    exact hs i c σ H T hx p hT
  · have e : i = x.cps.size := by omega
    subst e
    exact Or.inl ⟨Nat.le_refl _, hd σ H p⟩
end Mine
namespace Mine
open PySem PySem.Spec PyProof.Rows L2
/-! list(a text) -/
def sign (c : Nat) : V := .str ⟨#[c]⟩
def rListS : List V → Hp → VK → Prop := fun xs H Q => ∃ x : Str, xs = [.str x] ∧ x.cps.size ≤ 1000 ∧ ∀ l, H l = none → Q (.ref l) (upd H l (.lst (x.cps.toList.map sign)))
theorem signs_vals {x : Str} {acc : Array Value} (h : ItemsOf (SignAt x) acc x.cps.size) : Vals (x.cps.toList.map sign) acc.toList := by
  obtain ⟨hs, hi⟩ := h
  have gen : ∀ (cs : List Nat) (us : List Value), cs.length = us.length → (∀ (j : Nat) (v : Value), us[j]? = some v → ∃ c u, cs[j]? = some c ∧ v = Value.str ⟨#[c]⟩ u) → Vals (cs.map sign) us := by
    intro cs
    induction cs with
    | nil =>
      intro us l _
      cases us with
      | nil => exact .nil
      | cons u us => cases l
    | cons c cs ih =>
      intro us l h
      cases us with
      | nil => cases l
      | cons u us =>
        obtain ⟨c', t, hc, hv⟩ := h 0 u rfl
        cases hc
        refine .cons ⟨t, hv⟩ (ih us (by simpa using l) fun j v hj => ?_)
        exact h (j + 1) v hj
  refine gen _ _ (by simp [hs]) fun j v hj => ?_
  obtain ⟨c, u, h1, h2⟩ := hi j v (by simpa using hj)
  exact ⟨c, u, by simpa using h1, h2⟩
theorem cr_listS {X : Cx} (hc : X.calm = true) : CallR X (.type "list") rListS := by
  rintro pins s σ H xs us Q I rv ⟨x, rfl, l1, q⟩
  cases rv with
  | cons r rr =>
    cases rr
    obtain ⟨t, rfl⟩ := r
    refine callType_codes F.called_list (F.typeCall_list_1 _) F.entry_list_init (Q₁ := fun obj s1 => obj = .ref s.heap.objs.size ∧ s1 = { s with heap := s.heap.push { cls := .type "list", data := .seq #[] } }) (code_list_new _ ⟨rfl, rfl⟩) ?_
    rintro obj s1 ⟨rfl, rfl⟩
    have new := Heap.get?_push_size s.heap (o := { cls := .type "list", data := .seq #[] }) rfl
    refine ⟨⟨_, new, rfl⟩, F.args_list_init_2 _ _, ?_⟩
    refine wpAny_list_init_str (A := X.A.in1) (s := { s with heap := s.heap.push { cls := .type "list", data := .seq #[] } }) (I.ok.hd hc) x t s.heap.objs.size new (fun h' tk acc c' hk hl items => ?_) (Nat.le_trans l1 (by decide))
    refine ⟨rfl, .ref _, upd H s.heap.objs.size (.lst (x.cps.toList.map sign)), ?_, rfl, q _ (I.hok.fresh (Nat.le_refl _))⟩
    refine I.laid (t' := tk) (fun b u hb => hk b u (fun e => by have h := Heap.lt_size hb; rw [e] at h; exact Nat.lt_irrefl _ h) (Heap.get?_push_of_some _ hb)) (Nat.le_refl _) ?_
    exact ⟨by rw [List.length_map]; exact Nat.le_trans (show x.cps.toList.length ≤ 1000 by simpa using l1) (by decide), acc.toList, c', signs_vals items, by simpa using hl⟩
end Mine
namespace Mine
open PySem PySem.Spec PyProof.Rows L2
/-- sep.join(a list of texts) -/
def rJoinS (K : PySem.W.Frag) : V → List V → Hp → VK → Prop := fun x xs H Q => ∃ a p, ∃ ys : List Str, x = .str a ∧ xs = [.ref p] ∧ (SqL K H p (ys.map V.str) ∨ SqT K H p (ys.map V.str)) ∧ (ys.map (·.length)).sum + ys.length * a.length ≤ 16777216 ∧ Q (.str (Txt.join a ys)) H
theorem mt_joinS {X : Cx} : MtR X "str.join" (rJoinS X.K) := mt_join
/-- the text of these signs -/
def tx (l : List Nat) : Str := ⟨l.toArray⟩
theorem tx_len (l : List Nat) : (tx l).length = l.length := by
  show l.toArray.size = _
  simp
theorem tx_cps (l : List Nat) : (tx l).cps.toList = l := by
  show l.toArray.toList = _
  simp
theorem tx_size (l : List Nat) : (tx l).cps.size = l.length := by
  show l.toArray.size = _
  simp
theorem tx_cat (a b : List Nat) : tx a ++ tx b = tx (a ++ b) := by
  show (⟨a.toArray ++ b.toArray⟩ : Str) = ⟨(a ++ b).toArray⟩
  rw [List.append_toArray]
theorem tx_inj {a b : List Nat} : tx a = tx b ↔ a = b := by
  constructor
  · intro h
    have := congrArg (fun z : Str => z.cps.toList) h
    simpa [tx] using this
  · intro h; rw [h]
theorem tx_cut (l : List Nat) (lo hi : Option Int) : cutS (tx l) lo hi = tx ((l.drop (HT.sIx l.length 0 lo)).take (HT.sIx l.length l.length hi - HT.sIx l.length 0 lo)) := by
  unfold cutS
  rw [tx_len, tx_cps]
  rfl
theorem tx_join (l : List Nat) : Txt.join (tx []) (l.map fun c => tx [c]) = tx l := by
  have gen : ∀ (cs : List Nat) (a : Array Nat), List.foldl (fun (acc : Array Nat) (p : Str) => acc ++ (tx []).cps ++ p.cps) a (cs.map fun c => tx [c]) = a ++ cs.toArray := by
    intro cs
    induction cs with
    | nil => intro a; simp
    | cons c cs ih =>
      intro a
      rw [List.map_cons, List.foldl_cons, ih]
      simp [tx]
  unfold Txt.join Builtin.Str.glued
  cases l with
  | nil => rfl
  | cons c cs =>
    show (⟨List.foldl (fun (acc : Array Nat) (p : Str) => acc ++ (tx []).cps ++ p.cps) (tx [c]).cps (cs.map fun c => tx [c])⟩ : Str) = _
    rw [gen]
    simp [tx]
end Mine
namespace Mine
open PySem PySem.Spec PyProof.Rows L2
open Evl (Ex)
/-! rows of toads and frogs: T is 84, F is 70, a free place is 46 -/
structure FFrogs (K : PySem.W.Frag) : Prop where
  cl : Cls K (He.ga K "Frogs")
  na : NoAttr K (He.ga K "Frogs") "_line"
structure FSIGNS (K : PySem.W.Frag) : Prop where
  tu : ∀ H, SqT K H (He.ga K "SIGNS") [.str "T", .str "F", .str "."]
structure FMOVERS (K : PySem.W.Frag) : Prop where
  l : PySem.W.nsIn K (He.ga K "MOVERS") "left" = some (some (.ref (kdA K "MOVERS" "left"))) ∧ ∀ H, SqT K H (kdA K "MOVERS" "left") [.str "T", .str "F", .int 1]
  r : PySem.W.nsIn K (He.ga K "MOVERS") "right" = some (some (.ref (kdA K "MOVERS" "right"))) ∧ ∀ H, SqT K H (kdA K "MOVERS" "right") [.str "F", .str "T", .int (-1)]
def gfs (l : Str) : List (Str × V) := putF "_line" (.str l) []
theorem gfs_get (l : Str) : (gfs l).lookup ("_line" : Str) = some (.str l) := by
  unfold gfs
  rw [lookup_putF, if_pos rfl]
theorem gfs_no (l : Str) {m : Str} (h : ¬ m = "_line") : (gfs l).lookup m = none := by
  unfold gfs
  rw [lookup_putF, if_neg h]
  rfl
theorem s_T : ("T" : Str) = tx [84] := rfl
theorem s_F : ("F" : Str) = tx [70] := rfl
theorem s_dot : ("." : Str) = tx [46] := rfl
def OkL (l : List Nat) : Prop := l.length ≤ 12 ∧ ∀ c ∈ l, c = 84 ∨ c = 70 ∨ c = 46
theorem OkL.asc {l : List Nat} (h : OkL l) : Asc7 (tx l) := by
  unfold Asc7 strIterType tx
  rw [if_pos]
  rw [List.all_toArray, List.all_eq_true]
  intro c m
  rcases h.2 c m with rfl | rfl | rfl <;> rfl
/-- a board -/
def FgAt (K : PySem.W.Frag) (H : Hp) (b : Addr) (l : List Nat) : Prop := ∃ dx, H b = some (.ins (He.ga K "Frogs") dx (gfs (tx l)))
theorem FgAt.keep {K : PySem.W.Frag} {H H' : Hp} {b : Addr} {l : List Nat} (h : FgAt K H b l) (k : ∀ c o, H c = some o → (∀ ys, o ≠ .lst ys) → H' c = some o) : FgAt K H' b l := let ⟨dx, h1⟩ := h; ⟨dx, k _ _ h1 (fun ys z => by cases z)⟩
theorem FgAt.ex {K : PySem.W.Frag} {H H' : Hp} {b : Addr} {l : List Nat} (h : FgAt K H b l) (e : Ex H H') : FgAt K H' b l := h.keep fun c o z _ => e c o z
def FgV (K : PySem.W.Frag) (H : Hp) (y : V) (l : List Nat) : Prop := ∃ b, y = .ref b ∧ FgAt K H b l
theorem FgV.keep {K : PySem.W.Frag} {H H' : Hp} {y : V} {l : List Nat} (h : FgV K H y l) (k : ∀ c o, H c = some o → (∀ ys, o ≠ .lst ys) → H' c = some o) : FgV K H' y l := let ⟨b, r, z⟩ := h; ⟨b, r, z.keep k⟩
theorem FgV.ex {K : PySem.W.Frag} {H H' : Hp} {y : V} {l : List Nat} (h : FgV K H y l) (e : Ex H H') : FgV K H' y l := h.keep fun c o z _ => e c o z
def DuF (H : Hp) (y : V) (l : List Nat) : Prop := ∃ d, y = .ref d ∧ H d = some (.tup [.str "frogs", .str (tx l)])
theorem DuF.keep {H H' : Hp} {y : V} {l : List Nat} (h : DuF H y l) (k : ∀ c o, H c = some o → (∀ ys, o ≠ .lst ys) → H' c = some o) : DuF H' y l := let ⟨d, r, z⟩ := h; ⟨d, r, k _ _ z (fun ys z => by cases z)⟩
theorem DuF.ex {H H' : Hp} {y : V} {l : List Nat} (h : DuF H y l) (e : Ex H H') : DuF H' y l := h.keep fun c o z _ => e c o z
abbrev BsF (K : PySem.W.Frag) (H : Hp) (ys : List V) (ls : List (List Nat)) : Prop := AllAt (FgV K) H ys ls
abbrev DsF (H : Hp) (ys : List V) (ls : List (List Nat)) : Prop := AllAt DuF H ys ls
/-! moves -/
def atL (l : List Nat) (i : Int) : Option Nat := if 0 ≤ i then l[i.toNat]? else none
theorem atL_nat (l : List Nat) (i : Nat) : atL l (i : Int) = l[i]? := by
  unfold atL
  rw [if_pos (by omega), Int.toNat_natCast]
def ownF (s : Str) : Nat := if s = "left" then 84 else 70
def jumF (s : Str) : Nat := if s = "left" then 70 else 84
def stpF (s : Str) : Int := if s = "left" then 1 else -1
def tgt (s : Str) (l : List Nat) (p : Nat) : Option Int := if atL l (p + stpF s) = some 46 then some (p + stpF s) else if atL l (p + stpF s) = some (jumF s) ∧ atL l (p + 2 * stpF s) = some 46 then some (p + 2 * stpF s) else none
def mvL (s : Str) (l : List Nat) (p : Nat) (q : Int) : List Nat := (l.set p 46).set q.toNat (ownF s)
def mvAtF (s : Str) (l : List Nat) (p : Nat) : List (List Nat) := if l[p]? = some (ownF s) then (tgt s l p).toList.map (mvL s l p) else []
def mvsF (s : Str) (l : List Nat) : List (List Nat) := (List.range l.length).flatMap (mvAtF s l)
theorem tgt_in {s : Str} {l : List Nat} {p : Nat} {q : Int} (h : tgt s l p = some q) : 0 ≤ q ∧ q < l.length ∧ atL l q = some 46 := by
  have key : ∀ i : Int, atL l i = some 46 → 0 ≤ i ∧ i < l.length ∧ atL l i = some 46 := by
    intro i hi
    have hi0 := hi
    unfold atL at hi
    split at hi
    · have := (List.getElem?_eq_some_iff.mp hi).1
      exact ⟨by omega, by omega, hi0⟩
    · cases hi
  unfold tgt at h
  split at h
  · rename_i h1
    cases h
    exact key _ h1
  · split at h
    · rename_i h1
      cases h
      exact key _ h1.2
    · cases h
theorem mvAt_len (s : Str) (l : List Nat) (p : Nat) : (mvAtF s l p).length ≤ 1 := by
  unfold mvAtF
  split
  · rw [List.length_map]
    cases tgt s l p <;> simp
  · simp
theorem mvsF_len (s : Str) (l : List Nat) (n : Nat) : ((List.range n).flatMap (mvAtF s l)).length ≤ n := by
  induction n with
  | zero => exact Nat.le_refl _
  | succ n ih =>
    rw [List.range_succ, List.flatMap_append, List.length_append, List.flatMap_cons, List.flatMap_nil, List.append_nil]
    have := mvAt_len s l n
    omega
theorem mvL_ok {s : Str} {l : List Nat} (ok : OkL l) (p : Nat) (q : Int) : OkL (mvL s l p q) := by
  refine ⟨by unfold mvL; rw [List.length_set, List.length_set]; exact ok.1, fun c m => ?_⟩
  unfold mvL at m
  rcases List.mem_or_eq_of_mem_set m with m | rfl
  · rcases List.mem_or_eq_of_mem_set m with m | rfl
    · exact ok.2 c m
    · exact Or.inr (Or.inr rfl)
  · unfold ownF
    split
    · exact Or.inl rfl
    · exact Or.inr (Or.inl rfl)
end Mine
namespace Mine
open PySem PySem.Spec PyProof.Rows L2
/-! each move takes something away -/
def phi : List Nat → Nat
  | [] => 0
  | c :: l => (if c = 84 then l.count 46 + l.count 70 else if c = 46 then l.count 70 else 0) + phi l
def cross (a b : List Nat) : Nat := a.count 84 * (b.count 46 + b.count 70) + a.count 46 * b.count 70
theorem phi_app (a b : List Nat) : phi (a ++ b) = phi a + cross a b + phi b := by
  induction a with
  | nil => simp [phi, cross]
  | cons c a ih =>
    show (if c = 84 then (a ++ b).count 46 + (a ++ b).count 70 else if c = 46 then (a ++ b).count 70 else 0) + phi (a ++ b) = (if c = 84 then a.count 46 + a.count 70 else if c = 46 then a.count 70 else 0) + phi a + cross (c :: a) b + phi b
    rw [ih, List.count_append, List.count_append]
    unfold cross
    by_cases h1 : c = 84
    · subst h1
      rw [if_pos rfl, if_pos rfl, List.count_cons_self, List.count_cons_of_ne (by decide), Nat.add_mul]
      omega
    · by_cases h2 : c = 46
      · subst h2
        rw [if_neg (by decide), if_pos rfl, if_neg (by decide), if_pos rfl, List.count_cons_of_ne (by decide), List.count_cons_self, Nat.add_mul]
        omega
      · rw [if_neg h1, if_neg h2, if_neg h1, if_neg h2, List.count_cons_of_ne h1, List.count_cons_of_ne h2]
        omega
theorem phi_mid {A B m m' : List Nat} (h1 : m.count 84 = m'.count 84) (h2 : m.count 46 = m'.count 46) (h3 : m.count 70 = m'.count 70) (h : phi m' + 1 ≤ phi m) : phi (A ++ m' ++ B) + 1 ≤ phi (A ++ m ++ B) := by
  rw [phi_app, phi_app, phi_app, phi_app]
  unfold cross
  rw [List.count_append, List.count_append, List.count_append, List.count_append, h1, h2, h3]
  omega
theorem phiF_le : ∀ l : List Nat, phi l ≤ l.count 84 * l.count 46 + l.count 84 * l.count 70 + l.count 46 * l.count 70
  | [] => by simp [phi]
  | c :: l => by
    have ih := phiF_le l
    show (if c = 84 then l.count 46 + l.count 70 else if c = 46 then l.count 70 else 0) + phi l ≤ _
    by_cases h1 : c = 84
    · subst h1
      rw [if_pos rfl, List.count_cons_self, List.count_cons_of_ne (by decide), List.count_cons_of_ne (by decide), Nat.add_mul, Nat.add_mul]
      omega
    · by_cases h2 : c = 46
      · subst h2
        rw [if_neg (by decide), if_pos rfl, List.count_cons_of_ne (by decide), List.count_cons_self, List.count_cons_of_ne (by decide), Nat.add_mul, Nat.mul_add]
        omega
      · rw [if_neg h1, if_neg h2, List.count_cons_of_ne h1, List.count_cons_of_ne h2]
        by_cases h3 : c = 70
        · subst h3
          rw [List.count_cons_self, Nat.mul_add, Nat.mul_add]
          omega
        · rw [List.count_cons_of_ne h3]
          omega
theorem counts_le : ∀ l : List Nat, l.count 84 + l.count 46 + l.count 70 ≤ l.length
  | [] => by simp
  | c :: l => by
    have ih := counts_le l
    rw [List.length_cons]
    by_cases h1 : c = 84
    · subst h1
      rw [List.count_cons_self, List.count_cons_of_ne (by decide), List.count_cons_of_ne (by decide)]; omega
    · by_cases h2 : c = 46
      · subst h2
        rw [List.count_cons_of_ne (by decide), List.count_cons_self, List.count_cons_of_ne (by decide)]; omega
      · by_cases h3 : c = 70
        · subst h3
          rw [List.count_cons_of_ne (by decide), List.count_cons_of_ne (by decide), List.count_cons_self]; omega
        · rw [List.count_cons_of_ne h1, List.count_cons_of_ne h2, List.count_cons_of_ne h3]; omega
theorem three_le : ∀ a, a ≤ 12 → ∀ b, b ≤ 12 → ∀ c, c ≤ 12 → a + b + c ≤ 12 → a * b + a * c + b * c ≤ 48 := by
  decide +kernel
theorem phi_48 {l : List Nat} (h : l.length ≤ 12) : phi l ≤ 48 := by
  have h1 := phiF_le l
  have h2 := counts_le l
  exact Nat.le_trans h1 (three_le _ (by omega) _ (by omega) _ (by omega) (by omega))
theorem split2 {l : List Nat} {p x y : Nat} (h1 : l[p]? = some x) (h2 : l[p + 1]? = some y) : l = l.take p ++ [x, y] ++ l.drop (p + 2) := by
  have l2 := (List.getElem?_eq_some_iff.mp h2).1
  have a1 := (List.getElem?_eq_some_iff.mp h1).2
  have a2 := (List.getElem?_eq_some_iff.mp h2).2
  have e1 : l.drop p = x :: l.drop (p + 1) := by rw [List.drop_eq_getElem_cons (by omega), a1]
  have e2 : l.drop (p + 1) = y :: l.drop (p + 2) := by rw [List.drop_eq_getElem_cons (by omega), a2]
  rw [List.append_assoc]
  show l = l.take p ++ (x :: y :: l.drop (p + 2))
  rw [← e2, ← e1, List.take_append_drop]
theorem split3 {l : List Nat} {p x y z : Nat} (h1 : l[p]? = some x) (h2 : l[p + 1]? = some y) (h3 : l[p + 2]? = some z) : l = l.take p ++ [x, y, z] ++ l.drop (p + 3) := by
  have l3 := (List.getElem?_eq_some_iff.mp h3).1
  have a3 := (List.getElem?_eq_some_iff.mp h3).2
  have e3 : l.drop (p + 2) = z :: l.drop (p + 3) := by rw [List.drop_eq_getElem_cons (by omega), a3]
  have e := split2 h1 h2
  rw [List.append_assoc] at e ⊢
  show l = l.take p ++ (x :: y :: z :: l.drop (p + 3))
  rw [← e3]
  exact e
theorem set_in {A B m : List Nat} {i v : Nat} (h : i < m.length) : (A ++ m ++ B).set (A.length + i) v = A ++ m.set i v ++ B := by
  rw [List.append_assoc, List.set_append_right _ _ (by omega), Nat.add_sub_cancel_left, List.set_append_left _ _ h, ← List.append_assoc]
end Mine
namespace Mine
open PySem PySem.Spec PyProof.Rows L2
theorem atL_some {l : List Nat} {i : Int} {c : Nat} (h : atL l i = some c) : ∃ n : Nat, i = (n : Int) ∧ l[n]? = some c := by
  unfold atL at h
  split at h
  · exact ⟨i.toNat, by omega, h⟩
  · cases h
theorem set2 {A B : List Nat} {x y v w : Nat} {p q i j : Nat} {m : List Nat} (hp : p = A.length + i) (hq : q = A.length + j) (hi : i < m.length) (hj : j < m.length) : ((A ++ m ++ B).set p v).set q w = A ++ (m.set i v).set j w ++ B := by
  subst hp hq
  rw [set_in hi, set_in (by rw [List.length_set]; exact hj)]
theorem phi_mv {s : Str} {l : List Nat} {p : Nat} {q : Int} (hp : l[p]? = some (ownF s)) (h : tgt s l p = some q) : phi (mvL s l p q) + 1 ≤ phi l := by
  have lp := (List.getElem?_eq_some_iff.mp hp).1
  unfold tgt at h
  unfold mvL
  by_cases z : s = "left"
  · have o : ownF s = 84 := by unfold ownF; rw [if_pos z]
    have u : jumF s = 70 := by unfold jumF; rw [if_pos z]
    have t : stpF s = 1 := by unfold stpF; rw [if_pos z]
    rw [o] at hp ⊢
    rw [u, t] at h
    split at h
    · rename_i h1
      cases h
      obtain ⟨n, en, hn⟩ := atL_some h1
      have e : n = p + 1 := by omega
      subst e
      have tl : (l.take p).length = p := by rw [List.length_take]; omega
      have sp := split2 hp hn
      generalize l.take p = A at *
      generalize l.drop (p + 2) = B at *
      subst sp
      rw [set2 (x := 0) (y := 0) (i := 0) (j := 1) (by omega) (by omega) (by decide) (by decide)]
      exact phi_mid (by decide) (by decide) (by decide) (by decide)
    · split at h
      · rename_i h2
        obtain ⟨h1, h2⟩ := h2
        cases h
        obtain ⟨n, en, hn⟩ := atL_some h1
        obtain ⟨n2, en2, hn2⟩ := atL_some h2
        have e : n = p + 1 := by omega
        have e2 : n2 = p + 2 := by omega
        subst e e2
        have tl : (l.take p).length = p := by rw [List.length_take]; omega
        have sp := split3 hp hn hn2
        generalize l.take p = A at *
        generalize l.drop (p + 3) = B at *
        subst sp
        rw [set2 (x := 0) (y := 0) (i := 0) (j := 2) (by omega) (by omega) (by decide) (by decide)]
        exact phi_mid (by decide) (by decide) (by decide) (by decide)
      · cases h
  · have o : ownF s = 70 := by unfold ownF; rw [if_neg z]
    have u : jumF s = 84 := by unfold jumF; rw [if_neg z]
    have t : stpF s = -1 := by unfold stpF; rw [if_neg z]
    rw [o] at hp ⊢
    rw [u, t] at h
    split at h
    · rename_i h1
      cases h
      obtain ⟨n, en, hn⟩ := atL_some h1
      have e : p = n + 1 := by omega
      subst e
      have tl : (l.take n).length = n := by rw [List.length_take]; omega
      have sp := split2 hn hp
      generalize l.take n = A at *
      generalize l.drop (n + 2) = B at *
      subst sp
      rw [set2 (x := 0) (y := 0) (i := 1) (j := 0) (by omega) (by omega) (by decide) (by decide)]
      exact phi_mid (by decide) (by decide) (by decide) (by decide)
    · split at h
      · rename_i h2
        obtain ⟨h1, h2⟩ := h2
        cases h
        obtain ⟨n, en, hn⟩ := atL_some h1
        obtain ⟨n2, en2, hn2⟩ := atL_some h2
        have e : p = n2 + 2 := by omega
        have e2 : n = n2 + 1 := by omega
        subst e e2
        have tl : (l.take n2).length = n2 := by rw [List.length_take]; omega
        have sp := split3 hn2 hn hp
        generalize l.take n2 = A at *
        generalize l.drop (n2 + 3) = B at *
        subst sp
        rw [set2 (x := 0) (y := 0) (i := 2) (j := 0) (by omega) (by omega) (by decide) (by decide)]
        exact phi_mid (by decide) (by decide) (by decide) (by decide)
      · cases h
theorem mvsF_phi {s : Str} {l : List Nat} : ∀ m ∈ mvsF s l, phi m + 1 ≤ phi l := by
  intro m h
  obtain ⟨p, _, h⟩ := List.mem_flatMap.mp h
  unfold mvAtF at h
  split at h
  · rename_i hp
    obtain ⟨q, hq, rfl⟩ := List.mem_map.mp h
    rw [Option.mem_toList] at hq
    exact phi_mv hp hq
  · cases h
theorem mvsF_ok {s : Str} {l : List Nat} (ok : OkL l) : ∀ m ∈ mvsF s l, OkL m := by
  intro m h
  obtain ⟨p, _, h⟩ := List.mem_flatMap.mp h
  unfold mvAtF at h
  split at h
  · obtain ⟨q, hq, rfl⟩ := List.mem_map.mp h
    exact mvL_ok ok p q
  · cases h
end Mine
namespace Mine
open PySem PySem.Spec PyProof.Rows L2
open Sem (wp)
/-! {x}: a set of one int -/
def tSet1 (w : World) (te : TE) : TE := fun σ H Q => ∀ p, H p = none → te σ (upd H p (SetO w p (fun _ => false) 0)) fun v H1 => ∃ k : Int, v = V.int k ∧ H1 p = some (SetO w p (fun _ => false) 0) ∧ Q (.ref p) (upd H1 p (SetO w p (fun j => decide (j = k)) 1))
theorem code_kds {K : PySem.W.Frag} {cd : Value} {q : Str} (h : PySem.W.codeIn K cd q = true) : PySem.W.kdsCode K cd = true := by
  unfold PySem.W.codeIn at h
  unfold PySem.W.kdsCode
  split at h
  · split at h
    · rename_i e
      dsimp only
      rw [e]
    · cases h
  · cases h
theorem pe_set1 {X : Cx} {e : Expr} {te : TE} {pos : Pos} (hc : PySem.W.kdsCode X.K X.env.code = true) (he : PE X e te) (hs : starEach [e] X.env = [(false, eval e X.env)] := by rfl) : PE X (.Set [e] 0 pos) (tSet1 X.w te) := by
  refine ⟨fun pins s σ H Q I h => ?_⟩
  rw [arm_eval_Set]
  refine wpAny_bind (wpAny_standAt ?_)
  refine wpAny_bind (PySem.W.kds_main (I.kIn) hc fun b => ?_)
  rw [hs]
  unfold setDisplay
  dsimp only
  have road : (displayRoad 0 [e] == DisplayRoad.constants) = false := rfl
  rw [road, if_neg (by decide)]
  refine wpAny_bind (wpAny_newSet_raw fun led hl => ?_)
  subst hl
  have hn := I.hok.fresh (Nat.le_refl s.heap.objs.size)
  have R0 := setR_fresh (h := s.heap) X.w
  have I1 := I.laid (a := s.heap.objs.size) (o := SetO X.w s.heap.objs.size (fun _ => false) 0) (t' := s.toks) (fun _ _ q => Heap.get?_push_of_some _ q) (Nat.le_refl _) (setO_new R0)
  refine wpAny_bind (wpAny_holding ?_)
  refine wpAny_bind (m := evalAll [(do let v ← eval e X.env; standAt pos; pure v)]) ?_
  refine wpAny_mono (PySem.W.kds_all (env := X.env) pos [e] _ (fun vs s' => ∃ (k : Int) (tk : Tok) (H1 : Hp), vs = [Value.int k tk] ∧ Inv X pins σ H1 s' ∧ H1 s.heap.objs.size = some (SetO X.w s.heap.objs.size (fun _ => false) 0) ∧ Q (.ref s.heap.objs.size) (upd H1 s.heap.objs.size (SetO X.w s.heap.objs.size (fun j => decide (j = k)) 1))) ?_) (fun vs s' h' => ?_) fun _ _ x => x
  · refine thn (he.run pins _ σ _ _ I1 (h _ hn)) fun u s1 z => ?_
    obtain ⟨v, H1, I2, rv, k, rfl, hp, q⟩ := z
    obtain ⟨tk, rfl⟩ := rv
    exact ⟨k, tk, H1, rfl, I2, hp, q⟩
  · obtain ⟨k, tk, H1, rfl, I2, hp, q⟩ := h'
    refine wpAny_bind (wpAny_holding ?_)
    refine wpAny_bind ?_
    rw [List.forIn_cons]
    refine wpAny_bind (wpAny_bind ?_)
    unfold setAdd
    refine wpAny_holding ?_
    refine wpAny_bind ((intKind X.prog X.w).pyHash (k := k) (intKind_is _ _ _ _) ?_)
    refine setR_add_hashed (s := { s' with toks := s'.toks + 1 }) (show SetR X.w s'.heap s.heap.objs.size (fun _ => false) 0 from setO_get I2 hp) (by decide) fun h' sb R => ?_
    refine wpAny_pure ?_
    dsimp only
    rw [List.forIn_nil]
    refine wpAny_pure ?_
    have road2 : (displayRoad 0 [e] == DisplayRoad.unsure) = false := rfl
    rw [road2, if_neg (by decide)]
    refine wpAny_pure ?_
    show wpAny _ _ (forIn [] _ _ >>= _) _ _ _
    rw [List.forIn_nil]
    refine wpAny_pure (wpAny_pure ?_)
    have hex : ∃ u, h'.get? s.heap.objs.size = some u := by
      have ⟨o, _, _, _, ho, _⟩ := R
      exact ⟨o, ho⟩
    have R2 : SetR X.w h' s.heap.objs.size (fun j => decide (j = k)) 1 := R.congr fun j => by simp
    exact ⟨.ref s.heap.objs.size, _, I2.write (x := s.heap.objs.size) (e := s.heap.objs.size) (t' := s'.toks + 1) (by rw [hp]; exact True.intro) (.inl rfl) (fun b u hb y => (sb.2 b hb).trans y) hex (setO_new R2), rfl, q⟩
/-- a def whose body asks for its own code -/
theorem okC {P : Program} {w : World} {K : PySem.W.Frag} {mg : Str → Option Value} {base : Heap} {x qual : Str} {params : Arguments} {body : List Stmt} {scope : Scope} {dvs : List V} {kws : List (Str × V)} {f : Addr} {fd : FuncData} {CX : CXT} {N ps : List Str} {k : Nat} {sp : Sp}
    (F : FunD K x qual params body scope dvs kws f fd) (S : FnScope N ps scope) (len : ∀ vs H Q E, sp vs H Q E → vs.length = ps.length)
    (hbody : ∀ (cdv : Value), PySem.W.kdsCode K cdv = true → ∀ (A : Around) (outer : List Env) (s : Shared) (H : Hp) (vs : List V) (Q : VK) (E : XK), Room k (A.deeper (envOfC qual scope s.heap.objs.size f cdv)) → sp vs H Q E →
      ∃ t, PSs (cxOf CX P w K mg base N qual scope f cdv A outer s H E) body t ∧ t { nx := fun _ H' => Q .non H', rt := Q } (start N vs) H) : FnOk P w K mg base CX (k + 1) f fd ps sp := by
  obtain ⟨_, _, _, _, _, _, _, cdv, _, _, rfl, lk, hcd, _⟩ := F.ex
  exact fn_of lk hcd S len fun A outer s H vs Q E hr hsp => hbody cdv (code_kds hcd) A outer s H vs Q E hr hsp
end Mine
namespace Mine
open PySem PySem.Spec PyProof.Rows L2
open Evl (Ex)
section
variable {H : Hp} {Q : VK} {K : PySem.W.Frag} {w : World} {σ : L2.St}
theorem k_dnew (q : ∀ p, H p = none → Q (.ref p) (upd H p (.dK []))) : tDNewK σ H Q := q
theorem k_set1 {te : TE} (q : ∀ p, H p = none → te σ (upd H p (SetO w p (fun _ => false) 0)) fun v H1 => ∃ k : Int, v = V.int k ∧ H1 p = some (SetO w p (fun _ => false) 0) ∧ Q (.ref p) (upd H1 p (SetO w p (fun j => decide (j = k)) 1))) : tSet1 w te σ H Q := q
theorem k_sadd {te : TE} {t : TA} (q : te σ H fun x H1 => (∃ a S n, x = V.ref a ∧ H1 a = some (SetO w a S n)) ∧ t σ H1 fun xs H2 => rSAdd w x xs H2 Q) : tSAdd w te t σ H Q := q
theorem k_sIn {k : Int} {a : Addr} {S : Int → Bool} {n : Nat} (h : H a = some (SetO w a S n)) (q : Q (.bl (S k)) H) : rSIn w (.int k) (.ref a) H Q := ⟨k, a, S, n, rfl, rfl, h, q⟩
theorem k_sNot {k : Int} {a : Addr} {S : Int → Bool} {n : Nat} (h : H a = some (SetO w a S n)) (q : Q (.bl (!S k)) H) : rSNotIn w (.int k) (.ref a) H Q := ⟨k, a, S, n, rfl, rfl, h, q⟩
theorem k_gsub {to ti : TE} {t : TSet} {v : V} {R : L2.St → Hp → Prop} (q : to σ H fun o H1 => ti σ H1 fun i H2 => t o i v H2 fun H3 => R σ H3) : gSub to ti t v σ H R := q
theorem k_rng3 {ta : TA} {R : It → Hp → Prop} (q : ta σ H fun vs H1 => ∃ (i j c : Int) (n : Nat), vs = [V.int i, V.int j, V.int c] ∧ RgC i j c n ∧ R (Itc i c n) H1) : iRng3 ta σ H R := q
theorem k_tru {te : TE} {R : Bool → Hp → Prop} (q : te σ H fun x H' => ∃ k, TruV K x H' k ∧ R k H') : tTru K te σ H R := q
theorem tru_L {a : Addr} {xs : List V} {R : Bool → Prop} (h : SqL K H a xs) (q : R (!xs.isEmpty)) : ∃ k, TruV K (.ref a) H k ∧ R k := ⟨_, Or.inl ⟨xs, h, rfl⟩, q⟩
theorem k_rSAdd {a : Addr} {k : Int} {S : Int → Bool} {n : Nat} (h : H a = some (SetO w a S n)) (l : n ≤ 1000) (no : S k = false) (q : Q .non (upd H a (SetO w a (fun j => S j || decide (j = k)) (n + 1)))) : rSAdd w (.ref a) [.int k] H Q :=
  ⟨a, k, S, n, rfl, rfl, h, Nat.lt_of_le_of_lt (Nat.succ_le_succ l) (by decide), by rw [if_neg (by rw [no]; decide)]; exact q⟩
theorem k_rPop {l : Addr} {xs : List V} {y : V} (h : H l = some (.lst (xs ++ [y]))) (q : Q y (upd H l (.lst xs))) : rPop (.ref l) [] H Q :=
  ⟨l, xs ++ [y], y, rfl, rfl, h, by rw [List.length_append, List.length_singleton, Nat.add_sub_cancel, List.getElem?_append_right (Nat.le_refl _), Nat.sub_self]; rfl, by rw [List.dropLast_concat]; exact q⟩
theorem forK_tup {g : TG} {tb : TS} {D : Ends} {a : Addr} {xs : List V} (Pv : Nat → L2.St → Hp → Prop) (h0 : Pv 0 σ H) (hl : ∀ i σ' H', i ≤ xs.length → Pv i σ' H' → SqT K H' a xs)
    (hs : ∀ i x σ' H', xs[i]? = some x → Pv i σ' H' → g x σ' H' fun σ2 H2 => tb { D with nx := Pv (i + 1), ct := Pv (i + 1), bk := D.nx } σ2 H2) (hd : ∀ σ' H', Pv xs.length σ' H' → D.nx σ' H') : forK g tb D σ (Itt K a) H := for_tup Pv h0 hl hs hd
end
end Mine
namespace Mine
open PySem PySem.Spec PyProof.Rows L2
open Evl (Ex)
def rRepS : R2 := fun x y H Q => ∃ z n, x = .str z ∧ y = .int n ∧ MulOk z n ∧ Q (.str (Txt.mul z n)) H
theorem op_rep_str {X : Cx} : OpR X (binaryOp .Mult) rRepS := by
  rintro pins s σ H x y v u Q I rx ry ⟨z, n, rfl, rfl, ok, q⟩
  obtain ⟨t, rfl⟩ := rx
  obtain ⟨t', rfl⟩ := ry
  exact SB.mul ok fun t'' k => ⟨.str _, H, I.tok _, ⟨t'', rfl⟩, q⟩
section
variable {H : Hp} {K : PySem.W.Frag} {Q : VK}
theorem k_lenX {l : List Nat} (h : l.length ≤ 3000) (q : Q (.int (l.length : Nat)) H) : rLenS [.str (tx l)] H Q :=
  ⟨tx l, rfl, by rw [tx_len]; exact fits h, by rw [tx_len]; exact q⟩
theorem k_catX {a b : List Nat} (h : a.length + b.length ≤ 3000) (q : Q (.str (tx (a ++ b))) H) : rCatS (.str (tx a)) (.str (tx b)) H Q :=
  ⟨tx a, tx b, rfl, rfl, by rw [tx_len, tx_len]; exact fits h, by rw [tx_cat]; exact q⟩
theorem k_ixX {l : List Nat} {i : Int} {c : Nat} (h : l.length ≤ 3000) (e : atI l i = some c) (q : Q (.str (tx [c])) H) : rIxS (.str (tx l)) (.int i) H Q :=
  ⟨tx l, i, c, rfl, rfl, by rw [tx_len]; exact fits h, by rw [tx_cps]; exact e, q⟩
theorem k_slX {l : List Nat} {lo hi : Option Int} (h : l.length ≤ 3000) (q : Q (.str (tx ((l.drop (HT.sIx l.length 0 lo)).take (HT.sIx l.length l.length hi - HT.sIx l.length 0 lo)))) H) : rSlS (.str (tx l)) lo hi H Q :=
  ⟨tx l, rfl, by rw [tx_len]; exact fits h, by rw [tx_cut]; exact q⟩
theorem k_eqX {a b : List Nat} (q : Q (.bl (decide (a = b))) H) : rEq (.str (tx a)) (.str (tx b)) H Q := ⟨rfl, by
  have e : decide (V.str (tx a) = V.str (tx b)) = decide (a = b) := decide_eq_decide.mpr ⟨fun h => tx_inj.mp (V.str.inj h), fun h => by rw [h]⟩
  rw [e]; exact q⟩
theorem k_neX {a b : List Nat} (q : Q (.bl (!decide (a = b))) H) : rNe (.str (tx a)) (.str (tx b)) H Q := ⟨rfl, by
  have e : decide (V.str (tx a) = V.str (tx b)) = decide (a = b) := decide_eq_decide.mpr ⟨fun h => tx_inj.mp (V.str.inj h), fun h => by rw [h]⟩
  first
    | (rw [← e] at q; exact q)
    | (show Q _ H; rw [← e] at q; simpa using q)⟩
theorem k_eqNX {b : Str} (q : Q (.bl false) H) : rEq .non (.str b) H Q := ⟨rfl, by
  have e : decide (V.non = V.str b) = false := decide_eq_false (fun h => by cases h)
  rw [e]; exact q⟩
theorem k_inX {c : Nat} {b : List Nat} (q : Q (.bl (decide (c ∈ b))) H) : rInS (.str (tx [c])) (.str (tx b)) H Q :=
  ⟨c, tx b, rfl, rfl, by rw [tx_cps]; exact q⟩
def okc (c : Nat) : Bool := decide (c = 84) || (decide (c = 70) || decide (c = 46))
theorem k_signs (F : FSIGNS K) {c : Nat} (q : Q (.bl (okc c)) H) : rIn K false (.str (tx [c])) (.ref (He.ga K "SIGNS")) H Q := by
  refine ⟨_, _, rfl, Or.inr (F.tu H), rfl, rfl, ?_⟩
  have e : inV (V.str (tx [c])) [.str "T", .str "F", .str "."] = okc c := by
    have key : ∀ d : Nat, eqV (V.str (tx [d])) (V.str (tx [c])) = decide (c = d) := by
      intro d
      show decide (tx [d] = tx [c]) = _
      refine decide_eq_decide.mpr ⟨fun h => ?_, fun h => by rw [h]⟩
      have := tx_inj.mp h
      injection this with h1
      exact h1.symm
    show (eqV (V.str (tx [84])) (V.str (tx [c])) || (eqV (V.str (tx [70])) (V.str (tx [c])) || (eqV (V.str (tx [46])) (V.str (tx [c])) || false))) = _
    rw [key, key, key, Bool.or_false]
    rfl
  rw [e]
  exact q
theorem k_allX {a : Addr} {bs : List Bool} (h : SqL K H a (bs.map V.bl)) (q : Q (.bl (bs.all id)) H) : rAll K [.ref a] H Q := ⟨a, bs, rfl, h, q⟩
theorem k_joinX {p : Addr} {l : List Nat} (h : SqL K H p (l.map fun c => V.str (tx [c]))) (few : l.length ≤ 3000) (q : Q (.str (tx l)) H) : rJoinS K (.str "") [.ref p] H Q := by
  refine ⟨tx [], p, l.map fun c => tx [c], rfl, rfl, Or.inl (by rw [List.map_map]; exact h), ?_, by rw [tx_join]; exact q⟩
  have e : (l.map fun c => tx [c]).map (·.length) = l.map fun _ => 1 := by
    rw [List.map_map]
    refine List.map_congr_left fun c _ => ?_
    show (tx [c]).length = 1
    rw [tx_len]; rfl
  have s : ∀ l : List Nat, (l.map fun _ => 1).sum = l.length := by
    intro l
    induction l with
    | nil => rfl
    | cons c l ih => rw [List.map_cons, List.sum_cons, ih, List.length_cons]; omega
  rw [e, s, List.length_map]
  have z : (tx []).length = 0 := rfl
  rw [z]
  omega
end
section
variable {g : TG} {tt : TT} {te : TE} {vs : List Nat} {σ : L2.St} {Q : VK} {H1 : Hp} {K : PySem.W.Frag}
theorem lcR_str {l : List Nat} (f : Nat → Option V) (len : l.length ≤ 3000) (t : ∀ (i c : Nat), l[i]? = some c → turnR g tt te vs σ (.str (tx [c])) (f c) H1)
    (q : ∀ D H', H1 D = none → Ex H1 H' → H' D = some (.lst (l.filterMap f)) → Q (.ref D) H') : lcR g tt te vs σ Q (Its (tx l)) H1 := by
  intro D hD
  refine ⟨fun i m H => i ≤ l.length ∧ m = l.length - i ∧ Ex H1 H ∧ H D = some (.lst ((l.take i).filterMap f)), ⟨l.length, Nat.zero_le _, by omega, Evl.Ex.new hD, upd_same⟩, ?_⟩
  rintro i m H ⟨hi, rfl, p⟩
  rcases Nat.lt_or_ge i l.length with h | h
  · refine Or.inr ⟨by show i < (tx l).cps.size; rw [tx_size]; exact h, fun H' => i + 1 ≤ l.length ∧ Ex H1 H' ∧ H' D = some (.lst ((l.take (i + 1)).filterMap f)), fun H' p' => ⟨l.length - (i + 1), by omega, by omega, rfl, p'.2⟩, ?_⟩
    rintro x H' ⟨rfl, c, hc, rfl⟩
    have hc' : l[i]? = some c := by
      have : (tx l).cps.toList[i]? = some c := by simpa using hc
      rw [tx_cps] at this
      exact this
    refine turn_in (t i c hc') p.1 hD p.2 (fits' ?_) fun H2 e h' => ⟨h, e, ?_⟩
    · refine Nat.le_trans (List.length_filterMap_le _ _) ?_
      rw [List.length_take]; omega
    · rw [h', List.take_add_one, hc', List.filterMap_append]
      cases h : f c <;> simp [h]
  · have e : i = l.length := by omega
    subst e
    refine Or.inl ⟨by show (tx l).cps.size ≤ l.length; rw [tx_size]; exact Nat.le_refl _, ?_⟩
    refine q D H hD p.1 ?_
    rw [p.2, List.take_of_length_le (Nat.le_refl _)]
theorem k_istr {te : TE} {R : It → Hp → Prop} {H : Hp} {σ : L2.St} (q : te σ H fun v H1 => ∃ x, v = .str x ∧ R (Its x) H1) : iStr te σ H R := q
end
end Mine
namespace Mine
open PySem PySem.Spec PyProof.Rows L2
open Evl (Ex)
def sgV : Option Nat → V
  | some c => .str (tx [c])
  | none => .non
def tgV : Option Int → V
  | some q => .int q
  | none => .non
def tgG (l : List Nat) (p : Nat) (j : Nat) (st : Int) : Option Int := if atL l (p + st) = some 46 then some (p + st) else if atL l (p + st) = some j ∧ atL l (p + 2 * st) = some 46 then some (p + 2 * st) else none
theorem tgt_G (s : Str) (l : List Nat) (p : Nat) : tgt s l p = tgG l p (jumF s) (stpF s) := rfl
theorem k_eqSg {H : Hp} {Q : VK} {o : Option Nat} {d : Nat} (q : Q (.bl (decide (o = some d))) H) : rEq (sgV o) (.str (tx [d])) H Q := by
  cases o with
  | none => exact k_eqNX q
  | some c =>
    refine k_eqX ?_
    have e : decide ([c] = [d]) = decide (some c = some d) := decide_eq_decide.mpr ⟨fun h => by injection h with h; rw [h], fun h => by injection h with h; rw [h]⟩
    rw [e]; exact q
theorem map_sign (l : List Nat) : l.map sign = l.map fun c => V.str (tx [c]) := rfl
end Mine
namespace Mine
open PySem PySem.Spec PyProof.Rows L2
theorem k_tyX {K : PySem.W.Frag} {H : Hp} {a : Str} {P : Prop} (q : P) : tyV K "str" (.str a) H ∧ P := ⟨by first | exact Or.inr ⟨rfl, a, rfl⟩ | exact Or.inr (Or.inl ⟨rfl, a, rfl⟩) | (unfold tyV; simp), q⟩
end Mine
namespace Mine
open PySem PySem.Spec PyProof.Rows L2
open Evl (Ex)
theorem ok_str {l : List Nat} (ok : OkL l) : PyData.strOk (tx l) = true := by
  unfold PyData.strOk tx
  rw [List.all_toArray, List.all_eq_true]
  intro c m
  rcases ok.2 c m with rfl | rfl | rfl <;> rfl
/-! the rows that the law draws -/
def signsF (k : Nat) : List Nat := match k with
  | 0 => [84, 70, 46]
  | 1 => [84, 70, 46, 46]
  | 2 => [84, 70, 84, 70, 46]
  | _ => [84, 46, 70]
theorem signsF_ok (k : Nat) : 3 ≤ (signsF k).length ∧ (signsF k).length ≤ 5 ∧ ∀ c ∈ signsF k, c = 84 ∨ c = 70 ∨ c = 46 := by
  match k with
  | 0 => exact ⟨by decide, by decide, by decide⟩
  | 1 => exact ⟨by decide, by decide, by decide⟩
  | 2 => exact ⟨by decide, by decide, by decide⟩
  | k + 3 => exact ⟨by show 3 ≤ 3; decide, by show 3 ≤ 5; decide, by show ∀ c ∈ [84, 46, 70], c = 84 ∨ c = 70 ∨ c = 46; decide⟩
def lineD (ds : List Int) : List Nat := (List.range (ds.getD (0 : Int).toNat 0 % 13).toNat).map fun (k : Nat) => (signsF (ds.getD (13 : Int).toNat 0 % 4).toNat).getD (ds.getD (1 + (k : Int)).toNat 0 % ((signsF (ds.getD (13 : Int).toNat 0 % 4).toNat).length : Int)).toNat 0
def lineF (c : Int) : List Nat := lineD (dgF c 14)
theorem lineD_ok (ds : List Int) : OkL (lineD ds) := by
  refine ⟨by unfold lineD; rw [List.length_map, List.length_range]; omega, fun c m => ?_⟩
  unfold lineD at m
  obtain ⟨k, _, rfl⟩ := List.mem_map.mp m
  obtain ⟨s1, s2, s3⟩ := signsF_ok (ds.getD (13 : Int).toNat 0 % 4).toNat
  generalize signsF (ds.getD (13 : Int).toNat 0 % 4).toNat = sg at *
  have h1 := Int.emod_nonneg (ds.getD (1 + (k : Int)).toNat 0) (b := (sg.length : Int)) (by omega)
  have h2 := Int.emod_lt_of_pos (ds.getD (1 + (k : Int)).toNat 0) (b := (sg.length : Int)) (by omega)
  have lt : (ds.getD (1 + (k : Int)).toNat 0 % (sg.length : Int)).toNat < sg.length := by omega
  rw [List.getD_eq_getElem?_getD, List.getElem?_eq_getElem lt]
  exact s3 _ (List.getElem_mem lt)
theorem lineF_ok (c : Int) : OkL (lineF c) := lineD_ok _
/-! the law's way to the moves -/
def pd (l : List Nat) : List Nat := [35, 35] ++ l ++ [35, 35]
theorem pd_at {l : List Nat} {j : Int} (h1 : -2 ≤ j) (h2 : j ≤ l.length + 1) : atI (pd l) (2 + j) = some ((atL l j).getD 35) := by
  obtain ⟨n, hn⟩ : ∃ n : Nat, 2 + j = (n : Int) := ⟨(2 + j).toNat, by omega⟩
  rw [hn]
  refine atI_nat ?_
  unfold pd atL
  rcases (show n < 2 ∨ (2 ≤ n ∧ n < l.length + 2) ∨ l.length + 2 ≤ n by omega) with h | ⟨h, h'⟩ | h
  · rw [if_neg (by omega), List.append_assoc, List.getElem?_append_left (by show n < 2; exact h)]
    match n with
    | 0 => rfl
    | 1 => rfl
  · rw [if_pos (by omega), List.append_assoc, List.getElem?_append_right (by show 2 ≤ n; exact h), List.getElem?_append_left (by show n - 2 < _; omega)]
    have e : j.toNat = n - 2 := by omega
    show l[n - 2]? = _
    rw [e, List.getElem?_eq_getElem (by omega)]; rfl
  · have e1 : l[j.toNat]? = none := List.getElem?_eq_none (by omega)
    have e2 : ([35, 35] ++ l).length = 2 + l.length := by rw [List.length_append]; rfl
    rw [if_pos (by omega), e1, List.getElem?_append_right (by omega), e2]
    show [35, 35][n - (2 + l.length)]? = some 35
    have e : n - (2 + l.length) = 0 ∨ n - (2 + l.length) = 1 := by omega
    rcases e with e | e <;> rw [e] <;> rfl
theorem getD_46 {o : Option Nat} : [o.getD 35] = [46] ↔ o = some 46 := by
  cases o with
  | none => simp
  | some c => simp
def gl (s : Str) (l : List Nat) (i : Nat) : Option Int := if l[i]? = some (ownF s) then tgt s l i else none
theorem mvAt_gl (s : Str) (l : List Nat) (i : Nat) : mvAtF s l i = (gl s l i).toList.map (mvL s l i) := by
  unfold mvAtF gl
  split
  · rfl
  · rfl
def glV (s : Str) (l : List Nat) (i : Nat) : Int := match gl s l i with
  | some q => q + 2
  | none => -1
theorem k_ifC {p : Prop} [Decidable p] {a b : V} {σ : L2.St} {H : Hp} {Q : VK} (q : Q (if p then a else b) H) : if decide p = true then tC a σ H Q else tC b σ H Q := by
  by_cases h : p
  · rw [if_pos h] at q; rw [if_pos (decide_eq_true h)]; exact q
  · rw [if_neg h] at q; rw [if_neg (by simpa using h)]; exact q
theorem k_ifU {p : Prop} [Decidable p] {σ : L2.St} {H : Hp} {Q : VK} (q : Q (.int (if p then 1 else -1)) H) : if decide p = true then tC (.int 1) σ H Q else tUn rNegI (tC (.int 1)) σ H Q := by
  by_cases h : p
  · rw [if_pos h] at q; rw [if_pos (decide_eq_true h)]; exact q
  · rw [if_neg h] at q; rw [if_neg (by simpa using h)]
    exact k_un (k_c (k_U q))
end Mine
namespace Mine
open PySem PySem.Spec PyProof.Rows L2
open Evl (Ex)
/-! floors: a free cell is 46, a covered one 35 -/
structure FFloor (K : PySem.W.Frag) : Prop where
  cl : Cls K (He.ga K "Floor")
  na : NoAttr K (He.ga K "Floor") "_rows"
structure FSHAPES (K : PySem.W.Frag) : Prop where
  l : PySem.W.nsIn K (He.ga K "SHAPES") "left" = some (some (.ref (kdA K "SHAPES" "left"))) ∧ ∀ H, SqT K H (kdA K "SHAPES" "left") [.int 1, .int 0]
  r : PySem.W.nsIn K (He.ga K "SHAPES") "right" = some (some (.ref (kdA K "SHAPES" "right"))) ∧ ∀ H, SqT K H (kdA K "SHAPES" "right") [.int 0, .int 1]
def gfl (t : Addr) : List (Str × V) := putF "_rows" (.ref t) []
theorem gfl_get (t : Addr) : (gfl t).lookup ("_rows" : Str) = some (.ref t) := by
  unfold gfl
  rw [lookup_putF, if_pos rfl]
theorem gfl_no (t : Addr) {m : Str} (h : ¬ m = "_rows") : (gfl t).lookup m = none := by
  unfold gfl
  rw [lookup_putF, if_neg h]
  rfl
abbrev Fl := List (List Nat)
def rowsV (rs : Fl) : List V := rs.map fun r => V.str (tx r)
theorem rowsV_len (rs : Fl) : (rowsV rs).length = rs.length := List.length_map _
theorem rowsV_at {rs : Fl} {i : Nat} {r : List Nat} (h : rs[i]? = some r) : (rowsV rs)[i]? = some (.str (tx r)) := by
  unfold rowsV; rw [List.getElem?_map, h]; rfl
def OkR (w : Nat) (r : List Nat) : Prop := r.length = w ∧ ∀ c ∈ r, c = 46 ∨ c = 35
structure OkF (rs : Fl) (w : Nat) : Prop where
  n1 : 1 ≤ rs.length
  n6 : rs.length ≤ 6
  w1 : 1 ≤ w
  w6 : w ≤ 6
  ok : ∀ r ∈ rs, OkR w r
theorem OkF.at {rs : Fl} {w : Nat} (h : OkF rs w) {i : Nat} (hi : i < rs.length) : ∃ r, rs[i]? = some r ∧ OkR w r :=
  ⟨rs[i], List.getElem?_eq_getElem hi, h.ok _ (List.getElem_mem hi)⟩
/-- a board -/
def FlAt (K : PySem.W.Frag) (H : Hp) (b : Addr) (rs : Fl) : Prop := ∃ dx t, H b = some (.ins (He.ga K "Floor") dx (gfl t)) ∧ H t = some (.tup (rowsV rs))
theorem FlAt.keep {K : PySem.W.Frag} {H H' : Hp} {b : Addr} {l : Fl} (h : FlAt K H b l) (k : ∀ c o, H c = some o → (∀ ys, o ≠ .lst ys) → H' c = some o) : FlAt K H' b l :=
  let ⟨dx, t, h1, h2⟩ := h; ⟨dx, t, k _ _ h1 (fun ys z => by cases z), k _ _ h2 (fun ys z => by cases z)⟩
theorem FlAt.ex {K : PySem.W.Frag} {H H' : Hp} {b : Addr} {l : Fl} (h : FlAt K H b l) (e : Ex H H') : FlAt K H' b l := h.keep fun c o z _ => e c o z
def FlV (K : PySem.W.Frag) (H : Hp) (y : V) (l : Fl) : Prop := ∃ b, y = .ref b ∧ FlAt K H b l
theorem FlV.keep {K : PySem.W.Frag} {H H' : Hp} {y : V} {l : Fl} (h : FlV K H y l) (k : ∀ c o, H c = some o → (∀ ys, o ≠ .lst ys) → H' c = some o) : FlV K H' y l := let ⟨b, r, z⟩ := h; ⟨b, r, z.keep k⟩
theorem FlV.ex {K : PySem.W.Frag} {H H' : Hp} {y : V} {l : Fl} (h : FlV K H y l) (e : Ex H H') : FlV K H' y l := h.keep fun c o z _ => e c o z
def DuL (H : Hp) (y : V) (l : Fl) : Prop := ∃ d t, y = .ref d ∧ H d = some (.tup [.str "floor", .ref t]) ∧ H t = some (.tup (rowsV l))
theorem DuL.keep {H H' : Hp} {y : V} {l : Fl} (h : DuL H y l) (k : ∀ c o, H c = some o → (∀ ys, o ≠ .lst ys) → H' c = some o) : DuL H' y l := let ⟨d, t, r, z, u⟩ := h; ⟨d, t, r, k _ _ z (fun ys z => by cases z), k _ _ u (fun ys z => by cases z)⟩
theorem DuL.ex {H H' : Hp} {y : V} {l : Fl} (h : DuL H y l) (e : Ex H H') : DuL H' y l := h.keep fun c o z _ => e c o z
abbrev BsL (K : PySem.W.Frag) (H : Hp) (ys : List V) (ls : List Fl) : Prop := AllAt (FlV K) H ys ls
abbrev DsL (H : Hp) (ys : List V) (ls : List Fl) : Prop := AllAt DuL H ys ls
/-! cells and moves -/
def cell (rs : Fl) (i j : Nat) : Option Nat := rs[i]?.bind fun r => r[j]?
def fre (rs : Fl) (i j : Nat) : Bool := decide (cell rs i j = some 46)
def cov (rs : Fl) (i j : Nat) : Fl := rs.set i ((rs.getD i []).set j 35)
def dnF (s : Str) : Nat := if s = "left" then 1 else 0
def rtF (s : Str) : Nat := if s = "left" then 0 else 1
def mvAtL (s : Str) (rs : Fl) (i j : Nat) : List Fl := if fre rs i j = true ∧ fre rs (i + dnF s) (j + rtF s) = true then [cov (cov rs i j) (i + dnF s) (j + rtF s)] else []
def mvsL (s : Str) (w : Nat) (rs : Fl) : List Fl := (List.range rs.length).flatMap fun i => (List.range w).flatMap fun j => mvAtL s rs i j
theorem fre_in {rs : Fl} {i j w : Nat} (ok : OkF rs w) (h : fre rs i j = true) : i < rs.length ∧ j < w := by
  have h := of_decide_eq_true h
  unfold cell at h
  cases e : rs[i]? with
  | none => rw [e] at h; cases h
  | some r =>
    rw [e] at h
    have hi := (List.getElem?_eq_some_iff.mp e).1
    have hj : r[j]? = some 46 := h
    have := (List.getElem?_eq_some_iff.mp hj).1
    have ol := (ok.ok r (List.mem_of_getElem? e)).1
    exact ⟨hi, by omega⟩
theorem cov_ok {rs : Fl} {w i j : Nat} (ok : OkF rs w) (hi : i < rs.length) : OkF (cov rs i j) w := by
  have hl : (cov rs i j).length = rs.length := List.length_set
  refine ⟨by rw [hl]; exact ok.n1, by rw [hl]; exact ok.n6, ok.w1, ok.w6, fun r m => ?_⟩
  rcases List.mem_or_eq_of_mem_set m with m | rfl
  · exact ok.ok r m
  · have e : rs.getD i [] = rs[i] := by rw [List.getD_eq_getElem?_getD, List.getElem?_eq_getElem hi]; rfl
    rw [e]
    have o := ok.ok _ (List.getElem_mem hi)
    refine ⟨by rw [List.length_set]; exact o.1, fun c m => ?_⟩
    rcases List.mem_or_eq_of_mem_set m with m | rfl
    · exact o.2 c m
    · exact Or.inr rfl
theorem mvAt_ok {s : Str} {rs : Fl} {w i j : Nat} (ok : OkF rs w) : ∀ r ∈ mvAtL s rs i j, OkF r w ∧ r.length = rs.length := by
  intro r m
  unfold mvAtL at m
  split at m
  · rename_i h
    rw [List.mem_singleton] at m
    subst m
    have h1 := fre_in ok h.1
    have h2 := fre_in ok h.2
    refine ⟨cov_ok (cov_ok ok h1.1) (by unfold cov; rw [List.length_set]; exact h2.1), by unfold cov; rw [List.length_set, List.length_set]⟩
  · cases m
theorem mvsL_ok {s : Str} {rs : Fl} {w : Nat} (ok : OkF rs w) : ∀ r ∈ mvsL s w rs, OkF r w := by
  intro r m
  unfold mvsL at m
  obtain ⟨i, _, m⟩ := List.mem_flatMap.mp m
  obtain ⟨j, _, m⟩ := List.mem_flatMap.mp m
  exact (mvAt_ok ok r m).1
theorem mvAtL_len (s : Str) (rs : Fl) (i j : Nat) : (mvAtL s rs i j).length ≤ 1 := by
  unfold mvAtL
  split <;> simp
theorem flat_len {α : Type} (f : Nat → List α) (b : Nat) (h : ∀ i, (f i).length ≤ b) (n : Nat) : ((List.range n).flatMap f).length ≤ n * b := by
  induction n with
  | zero => simp
  | succ n ih =>
    rw [List.range_succ, List.flatMap_append, List.length_append, List.flatMap_cons, List.flatMap_nil, List.append_nil, Nat.add_mul, Nat.one_mul]
    have := h n
    omega
/-! texts: a row's kind -/
def okd (c : Nat) : Bool := decide (c = 46) || decide (c = 35)
theorem okd_iff (c : Nat) : okd c = true ↔ (c = 46 ∨ c = 35) := by
  unfold okd
  rw [Bool.or_eq_true, decide_eq_true_iff, decide_eq_true_iff]
section
variable {H : Hp} {K : PySem.W.Frag} {Q : VK}
theorem k_inDots {t : Addr} (h : SqT K H t [.str ".", .str "#"]) {c : Nat} (q : Q (.bl (okd c)) H) : rIn K false (.str (tx [c])) (.ref t) H Q := by
  refine ⟨_, _, rfl, Or.inr h, rfl, rfl, ?_⟩
  have e : inV (V.str (tx [c])) [.str ".", .str "#"] = okd c := by
    have key : ∀ d : Nat, eqV (V.str (tx [d])) (V.str (tx [c])) = decide (c = d) := by
      intro d
      show decide (tx [d] = tx [c]) = _
      refine decide_eq_decide.mpr ⟨fun h => ?_, fun h => by rw [h]⟩
      have := tx_inj.mp h
      injection this with h1
      exact h1.symm
    show (eqV (V.str (tx [46])) (V.str (tx [c])) || (eqV (V.str (tx [35])) (V.str (tx [c])) || false)) = _
    rw [key, key, Bool.or_false]
    rfl
  rw [e]
  exact q
end
section
variable {te : TE} {σ : L2.St} {H1 : Hp}
/-- a turn that may make objects -/
theorem turn_mapE {i : Nat} {x y : V} (h : ∀ H', Ex H1 H' → ∀ R : VK, (∀ H'', Ex H' H'' → R y H'') → te ((wipe σ [i]).set i (some x)) H' R) (w : wipe ((wipe σ [i]).set i (some x)) [i] = wipe σ [i] := by rfl) : turnR (gName i) tYes te [i] σ x (some y) H1 :=
  fun H' e R r => ⟨w, h H' e (fun y H4 => R (some y) H4) r⟩
end
/-- what is known of a thing in a list of rows -/
def Kn (K : PySem.W.Frag) (H : Hp) (v : V) : Prop := (∃ T, TyB K H v T ∧ T ≠ "str") ∨ ∃ r, v = .str (tx r) ∧ r.length ≤ 100
theorem Kn.ex {K : PySem.W.Frag} {H H' : Hp} {v : V} (h : Kn K H v) (e : Ex H H') : Kn K H' v := by
  rcases h with ⟨T, t, n⟩ | h
  · exact Or.inl ⟨T, TyB.ex t e, n⟩
  · exact Or.inr h
theorem ty_str {K : PySem.W.Frag} {H : Hp} {r : Str} {T : String} (h : TyB K H (.str r) T) : T = "str" := by cases h; rfl
/-- no list of rows -/
def NoF (xs : List V) : Prop := ∀ rs w, OkF rs w → xs ≠ rowsV rs
/-- a row as it must be, of the first row's length -/
def Row0 (n : Nat) (v : V) : Prop := ∃ r, v = .str (tx r) ∧ r.length = n ∧ 1 ≤ r.length ∧ r.length ≤ 6 ∧ r.all okd = true
def len0 : List V → Nat
  | .str s :: _ => s.length
  | _ => 0
theorem rows_of {xs : List V} (h1 : 1 ≤ xs.length) (h6 : xs.length ≤ 6) (h : ∀ v ∈ xs, Row0 (len0 xs) v) : ∃ rs w, OkF rs w ∧ xs = rowsV rs := by
  have ex : ∀ ys : List V, (∀ v ∈ ys, Row0 (len0 xs) v) → ∃ rs : Fl, ys = rowsV rs ∧ ∀ r ∈ rs, OkR (len0 xs) r := by
    intro ys
    induction ys with
    | nil => exact fun _ => ⟨[], rfl, fun _ m => by cases m⟩
    | cons y ys ih =>
      intro h
      obtain ⟨rs, e, o⟩ := ih fun v m => h v (List.mem_cons_of_mem _ m)
      obtain ⟨r, e2, l, _, _, a⟩ := h y (List.mem_cons_self)
      refine ⟨r :: rs, by rw [e, e2]; rfl, fun q m => ?_⟩
      rcases List.mem_cons.mp m with rfl | m
      · exact ⟨l, fun c mc => (okd_iff c).mp (List.all_eq_true.mp a c mc)⟩
      · exact o q m
  obtain ⟨rs, e, o⟩ := ex xs h
  have hl : rs.length = xs.length := by rw [e, rowsV_len]
  refine ⟨rs, len0 xs, ⟨by omega, by omega, ?_, ?_, o⟩, e⟩
  · obtain ⟨r, _, l, a, b, _⟩ := h xs[0] (List.getElem_mem (by omega)); omega
  · obtain ⟨r, _, l, a, b, _⟩ := h xs[0] (List.getElem_mem (by omega)); omega
theorem row_of {xs : List V} {rs : Fl} {w : Nat} (ok : OkF rs w) (e : xs = rowsV rs) : 1 ≤ xs.length ∧ xs.length ≤ 6 ∧ ∀ v ∈ xs, Row0 (len0 xs) v := by
  subst e
  refine ⟨by rw [rowsV_len]; exact ok.n1, by rw [rowsV_len]; exact ok.n6, fun v m => ?_⟩
  obtain ⟨r, mr, rfl⟩ := List.mem_map.mp m
  have o := ok.ok r mr
  have e0 : len0 (rowsV rs) = w := by
    cases rs with
    | nil => cases mr
    | cons q qs =>
      show (tx q).length = w
      rw [tx_len]; exact (ok.ok q (List.mem_cons_self)).1
  rw [e0]
  exact ⟨r, rfl, o.1, by rw [o.1]; exact ok.w1, by rw [o.1]; exact ok.w6, List.all_eq_true.mpr fun c m => (okd_iff c).mpr (o.2 c m)⟩
/-! the rows that the law draws -/
def widD (ds : List Int) : Nat := (1 + ds.getD 1 0 % 6).toNat
def rowD (ds : List Int) (line : Nat) : List Nat := (List.range (widD ds)).map fun k => if ds.getD (3 + 6 * line + k) 0 % (2 + ds.getD 2 0 % 4) = 1 then 35 else 46
def rowsD (ds : List Int) : Fl := (List.range (1 + ds.getD 0 0 % 6).toNat).map (rowD ds)
def rowsF (c : Int) : Fl := rowsD (dgF c 39)
def widF (c : Int) : Nat := widD (dgF c 39)
theorem rowsF_ok (c : Int) : OkF (rowsF c) (widF c) := by
  unfold rowsF widF rowsD
  generalize dgF c 39 = ds
  have w : widD ds = (1 + ds.getD 1 0 % 6).toNat := rfl
  refine ⟨by rw [List.length_map, List.length_range]; omega, by rw [List.length_map, List.length_range]; omega, by omega, by omega, fun r m => ?_⟩
  obtain ⟨l, _, rfl⟩ := List.mem_map.mp m
  refine ⟨by unfold rowD; rw [List.length_map, List.length_range], fun c m => ?_⟩
  obtain ⟨k, _, rfl⟩ := List.mem_map.mp m
  split
  · exact Or.inr rfl
  · exact Or.inl rfl
end Mine
namespace Mine
open PySem PySem.Spec PyProof.Rows L2
open Evl (Ex)
/-! what makes no floor -/
/-- never a row -/
def Never (v : V) : Prop := ∀ r, v = .str (tx r) → 1 ≤ r.length → r.length ≤ 6 → (∀ c ∈ r, c = 46 ∨ c = 35) → False
theorem put_at {xs : List V} {i : Nat} (h : i < xs.length) (v : V) : xs.take i ++ [v] ++ xs.drop (i + 1) = xs.set i v := by
  rw [List.set_eq_take_append_cons_drop, if_pos h, List.append_assoc]; rfl
theorem noF_put {rs : Fl} {w pl : Nat} {v : V} (ok : OkF rs w) (hp : pl < rs.length)
    (h : ∀ r, v = .str (tx r) → 1 ≤ r.length → r.length ≤ 6 → (∀ c ∈ r, c = 46 ∨ c = 35) → (1 < rs.length → r.length = w) → False) : NoF ((rowsV rs).set pl v) := by
  intro rs2 w2 ok2 e
  have hl := rowsV_len rs
  have e1 : (rowsV rs2)[pl]? = some v := by rw [← e]; exact List.getElem?_set_self (by omega)
  obtain ⟨r2, h2, e2⟩ : ∃ r2, rs2[pl]? = some r2 ∧ v = .str (tx r2) := by
    unfold rowsV at e1
    rw [List.getElem?_map] at e1
    obtain ⟨r2, a, b⟩ := Option.map_eq_some_iff.mp e1
    exact ⟨r2, a, b.symm⟩
  have o2 := ok2.ok r2 (List.mem_of_getElem? h2)
  have w1 := ok2.w1
  have w6 := ok2.w6
  refine h r2 e2 (by rw [o2.1]; exact w1) (by rw [o2.1]; exact w6) o2.2 fun n1 => ?_
  have key : ∀ k, k < rs.length → k ≠ pl → r2.length = w := by
    intro k hk ne
    obtain ⟨r, hr, o⟩ := ok.at hk
    have ek : (rowsV rs2)[k]? = some (.str (tx r)) := by
      rw [← e, List.getElem?_set_ne (fun h => ne h.symm)]
      exact rowsV_at hr
    unfold rowsV at ek
    rw [List.getElem?_map] at ek
    obtain ⟨r3, a, b⟩ := Option.map_eq_some_iff.mp ek
    injection b with b
    have b := tx_inj.mp b
    subst b
    have o3 := ok2.ok r3 (List.mem_of_getElem? a)
    rw [o2.1, ← o3.1]
    exact o.1
  by_cases z : pl = 0
  · exact key 1 (by omega) (by omega)
  · exact key 0 (by omega) (fun h => z h.symm)
theorem kn_rows {K : PySem.W.Frag} {H : Hp} {rs : Fl} {w : Nat} (ok : OkF rs w) : ∀ v ∈ rowsV rs, Kn K H v := by
  intro v m
  obtain ⟨r, mr, rfl⟩ := List.mem_map.mp m
  have o := (ok.ok r mr).1
  have := ok.w6
  exact Or.inr ⟨r, rfl, by omega⟩
theorem kn_put {K : PySem.W.Frag} {H : Hp} {rs : Fl} {w pl : Nat} {v : V} (ok : OkF rs w) (kv : Kn K H v) : ∀ x ∈ (rowsV rs).set pl v, Kn K H x := by
  intro x m
  rcases List.mem_or_eq_of_mem_set m with m | rfl
  · exact kn_rows ok x m
  · exact kv
theorem small_ok {l : List Nat} (h : ∀ c ∈ l, c < 128) : PyData.strOk (tx l) = true := by
  unfold PyData.strOk tx
  rw [List.all_toArray, List.all_eq_true]
  intro c m
  have k : ∀ c : Nat, c < 128 → (decide (c < 1114112) && !(decide (55296 ≤ c) && decide (c ≤ 57343))) = true ∨ True := fun _ _ => Or.inr trivial
  have := h c m
  simp
  omega
theorem shaped_str {l : List Nat} (h : ∀ c ∈ l, c < 128) : SeqAt.shaped (.str (tx l)) = true := by
  have hd : (PyData.str (tx l)).depth ≤ 64 := by simp only [PyData.depth]; decide
  have hl : (PyData.str (tx l)).canLay0 = true := by simp only [PyData.canLay0]; exact small_ok h
  unfold SeqAt.shaped
  rw [hl, decide_eq_true hd]
  rfl
/-- a thing that can be compared with a text -/
def Cmp (K : PySem.W.Frag) (H : Hp) (v : V) : Prop := ∃ d, Dp K H v d ∧ SeqAt.shaped d = true
theorem k_neS {K : PySem.W.Frag} {H : Hp} {Q : VK} {v : V} {y : List Nat} (h : Cmp K H v) (hy : ∀ c ∈ y, c < 128) (q : ∀ b : Bool, (b = true → v ≠ .str (tx y)) → Q (.bl b) H) : rNeD K v (.str (tx y)) H Q := by
  obtain ⟨d, hd, sd⟩ := h
  refine ⟨d, .str (tx y), hd, .str _, sd, shaped_str hy, q _ fun hb e => ?_⟩
  subst e
  cases hd
  simp only [PyData.eqv] at hb
  simp at hb
theorem k_orP {P A B : Prop} {b : Bool} (ha : P → A) (h1 : b = true → P) (h2 : (P → A) → B) : if b = true then A else B := by
  cases b
  · exact h2 ha
  · exact ha (h1 rfl)
end Mine
namespace Mine
open PySem PySem.Spec PyProof.Rows L2
/-! name = {k: v for ..}, a statement of its own -/
section
variable {X : Cx}
theorem ps_setDc {i : Nat} {y : Str} {py : Pos} {kx vx tg iter : Expr} {ifs : List Expr} {scope : Scope} {own : List (Str × Nat)} {pos spos : Pos} {wi : TI} {g : TG} {tt : TT} {tk tv : TE} (hc : X.calm = true) (hN : X.N.Nodup) (hy : X.N[i]? = some y) (hyl : X.env.scope.names.lookup y = some .local)
    (hsw : swapsWith (.DictComp kx vx [⟨tg, iter, ifs, 0⟩] scope pos) (some (.Name y py)) spos.line X.env = pure true) (hi : PI X tg iter wi) (ok : BlkOk X.N X.env.scope scope own)
    (hg : ∀ (s : Shared) (H : Hp) (C : Addr) (cl : List (Str × Addr)) (fp : List Addr), PG (X.blk s H scope (compEnvC scope cl C X.env) fp) tg g) (ht : ∀ (s : Shared) (H : Hp) (C : Addr) (cl : List (Str × Addr)) (fp : List Addr), PTs (X.blk s H scope (compEnvC scope cl C X.env) fp) ifs tt)
    (hk : ∀ (s : Shared) (H : Hp) (C : Addr) (cl : List (Str × Addr)) (fp : List Addr), PE (X.blk s H scope (compEnvC scope cl C X.env) fp) kx tk)
    (hv : ∀ (s : Shared) (H : Hp) (C : Addr) (cl : List (Str × Addr)) (fp : List Addr), PE (X.blk s H scope (compEnvC scope cl C X.env) fp) vx tv) (hs : ∀ x, foldedSetIterable iter X.env x = pure x := by intro _; rfl) :
    PS X (.Assign [.Name y py] (.DictComp kx vx [⟨tg, iter, ifs, 0⟩] scope pos) spos) (tAsg (tDc wi g tt tk tv (own.map (·.2))) (gName i)) := by
  refine ⟨fun pins s σ H D I h => ?_⟩
  rw [exec_Assign_Name_used _ _ _ _ hsw]
  refine wpAny_bind (wpAny_standAt (wpAny_bind ?_))
  show wpAny _ X.A (do let _ ← comprehension (.DictComp kx vx [⟨tg, iter, ifs, 0⟩] scope pos) scope X.env (firstIterPos [⟨tg, iter, ifs, 0⟩] pos) newDict false (eval iter X.env) (some (assign (.Name y py) X.env))) _ _ s
  have h : tDc wi g tt tk tv (own.map (·.2)) σ H (fun x H1 => gName i x σ H1 D.nx) := h
  refine wpAny_bind (thn (dc_core (Qf := fun _ s' => SP X pins D .next s') hc hN I hi ok hg ht hk hv hs h fun L C s' m H' I' q hn f => ?_) fun _ s' hq => wpAny_pure (wpAny_pure hq))
  show wpAny _ _ (assign (.Name y py) X.env (.ref L)) _ _ _
  refine wpAny_assign_Name (store_ok2 (v := V.ref L) I' hN hy (.inl hyl) rfl (fun s2 I2 ⟨a, sb, ha⟩ => ?_) (.inr hyl))
  obtain ⟨f0, f1, f2, f3, f4, f5⟩ := f
  have far : C ≠ a := by
    rcases ha with z | z
    · rw [z]; exact f1
    · exact fun e => f4 y a z e.symm
  refine ⟨m, hn.sameBut sb far, fun h3 sb3 => ?_⟩
  exact ⟨_, H', I2.turned (t' := s2.toks) (fun b o hb e => (sb3.2 b hb).trans e) f0 f1 f3 f4 f5, q⟩
theorem swD_true {kx vx : Expr} {gs : List Comprehension} {scope : Scope} {pos py : Pos} {y : Str} {l : Nat} {env : Env} (hk : env.scope.kind = .function) (hy : env.scope.names.lookup y = some .local) (hl : (py.line == pos.line) = true)
    (ha : (scope.names.any fun (n, k) => n == y && (k == .local || k == .cell)) = false) : swapsWith (.DictComp kx vx gs scope pos) (some (.Name y py)) l env = pure true := by
  have ky : env.kindOf y = some .local := hy
  have hb : env.blockKind = .function := by unfold Env.blockKind; rw [hk]; rfl
  unfold swapsWith
  simp only [hb, ky, ha, Expr.pos, hl]
  rfl
end
end Mine
namespace Mine
open PySem PySem.Spec PyProof.Rows L2
open Evl (Ex)
/-! a list against an empty one -/
def rEqN (K : PySem.W.Frag) : R2 := fun x y H Q => ∃ a b xs, x = V.ref a ∧ y = V.ref b ∧ H a = some (.lst xs) ∧ H b = some (.lst []) ∧ Q (.bl (decide (xs.length = 0))) H
theorem op_eqN {X : Cx} (hu : X.A.units + 64 < cLine) : OpR X (compareOp .Eq) (rEqN X.K) := by
  rintro pins s σ H x y v u Q I r1 r2 ⟨a, b, xs, rfl, rfl, ha, hb, q⟩
  cases xs with
  | nil => exact op_eqD hu pins s σ H _ _ v u Q I r1 r2 ⟨.list [], .list [], .lst (k_sq ha) .nil, .lst (k_sq hb) .nil, by decide +kernel, by decide +kernel, by simpa [PyData.eqv, PyData.eqvAll] using q⟩
  | cons x xs =>
    obtain rfl : v = Value.ref a := r1
    obtain rfl : u = Value.ref b := r2
    obtain ⟨its, n, rv, h1, l1⟩ := I.lst ha
    obtain ⟨its2, n2, rv2, h2, l2⟩ := I.lst hb
    cases rv2
    cases rv with
    | @cons _ w _ ws hw rw =>
    show wpAny _ _ (richCompare .Eq (.ref a) (.ref b)) _ _ _
    refine richCompare_meets_room ⟨_, h1, rfl⟩ ⟨_, h2, rfl⟩ PySem.F.slot_list_eq PySem.F.entry_list_eq (PySem.F.args_list_eq_2 _ _) (PySem.AutoSeq1.list___eq___list_list_0 a _ n b _ n2 (by simp)) ⟨h1, h2, ?_⟩ (by omega)
    exact ⟨by simp, .bl false, H, I, rfl, by simpa using q⟩
/-! {k: v}, k a tuple -/
def tDispT (tk tv : TE) : TE := fun σ H Q => ∀ d, H d = none → tk σ (upd H d (.dT [])) fun y H1 => tv σ H1 fun z H2 => ∃ (b : Addr) (k : List Key), y = V.ref b ∧ H2 d = some (.dT []) ∧ H2 b = some (.tup (k.map kV)) ∧ Q (.ref d) (upd H2 d (.dT [(k, z)]))
theorem pe_dispT {X : Cx} {pos : Pos} {tk tv : TE} {k v : Expr} (hu : X.A.units + 9 < cLine) (hk : PE X k tk) (hv : PE X v tv) : PE X (.Dict [some k] [v] pos) (tDispT tk tv) := by
  refine ⟨fun pins s σ H Q I h => ?_⟩
  have hn := I.hok.fresh (Nat.le_refl s.heap.objs.size)
  have hb := I.big
  have hm : (s.heap.objs.size == sysModules) = false := beq_eq_false_iff_ne.mpr (Ne.symm (Nat.ne_of_lt hb))
  have I1 := I.laid (a := s.heap.objs.size) (o := .dT []) (h' := s.heap.push { cls := .type "dict", data := .dict #[] }) (t' := s.toks) (fun _ _ q => Heap.get?_push_of_some _ q) (Nat.le_refl _)
    ⟨Nat.zero_le _, hm, [], .nil, _, #[], 0, Heap.get?_push_size _ rfl, ⟨rfl, rfl, rfl⟩, rfl, rfl, List.nodup_nil⟩
  refine wpAny_Dict_any rfl rfl (by simp) (show 1 ≤ 15 by decide) ?_
  refine pairTrees_cons_walk (thn (hk.run pins _ σ _ _ I1 (h _ hn)) fun u s1 z1 => ?_)
  obtain ⟨y, H1, I2, ry, q1⟩ := z1
  refine thn (hv.run pins s1 σ H1 _ I2 q1) fun u2 s2 z2 => ?_
  obtain ⟨z, H2, I3, rz, b, kk, ey, g, kb, q2⟩ := z2
  subst ey
  obtain rfl : u = Value.ref b := ry
  refine pairTrees_nil_walk ?_
  unfold storeAll
  rw [List.forIn_cons]
  obtain ⟨zz, hd, xs, r, dd⟩ := dt_of I3.hok g
  have xn : xs = [] := by cases r; rfl
  subst xn
  refine wpAny_bind (wpAny_bind (wpAny_dictSet_heap (hsz := Nat.zero_le _) (knd := tupleKind (mixKind X.prog X.w)) (show X.A.units < cLine by omega) (key_of I3.hok kb) dd fun h' dd' hs => ?_))
  refine wpAny_pure ?_
  dsimp only
  rw [List.forIn_nil]
  refine wpAny_pure ⟨.ref s.heap.objs.size, _, ?_, rfl, q2⟩
  rw [storedH_new rfl] at dd'
  obtain ⟨q, es, ep, hq, h2, h3, h4, _, h5⟩ := dd'
  have nb : b ≠ s.heap.objs.size := fun e => by rw [e, g] at kb; cases kb
  refine I3.write (x := s.heap.objs.size) (e := s.heap.objs.size) (by rw [g]; exact True.intro) (.inl rfl) (fun c u hc y => (hs.2 c hc).trans y) ⟨q, hq⟩ ?_
  exact ⟨(show 1 ≤ sizeLine by decide), hd, _, .cons ⟨rfl, (upd_ne nb).trans kb, rz⟩ .nil, q, es, ep, hq, h2, h3, h4, h5⟩
/-! the keys of a locked dict -/
theorem for_keysT {g : TG} {tb : TS} {D : Ends} {σ : L2.St} {H : Hp} {d : Addr} {o : Obj} {kvs : List (List Key × V)} (Pv : Nat → L2.St → Hp → Prop) (h0 : Pv 0 σ H) (hl : ∀ i σ' H', i ≤ kvs.length → Pv i σ' H' → H' d = some (.frz o (.dT kvs)))
    (hs : ∀ i k v q σ' H', kvs[i]? = some (k, v) → Pv i σ' H' → H' q = some (.tup (k.map kV)) → g (.ref q) σ' H' fun σ2 H2 => tb { D with nx := Pv (i + 1), ct := Pv (i + 1), bk := D.nx } σ2 H2) (hd : ∀ σ' H', Pv kvs.length σ' H' → D.nx σ' H') : forK g tb D σ (Itkt d o kvs) H := by
  refine ⟨fun i m σ H => i ≤ kvs.length ∧ m = kvs.length - i ∧ Pv i σ H, ⟨kvs.length, Nat.zero_le _, by omega, h0⟩, ?_⟩
  rintro i m σ H ⟨hi, rfl, p⟩
  have hq := hl i σ H hi p
  rcases Nat.lt_or_ge i kvs.length with h | h
  · refine Or.inr ⟨⟨hq, h⟩, Pv (i + 1), fun σ' H' p' => ⟨kvs.length - (i + 1), by omega, by omega, rfl, p'⟩, ?_⟩
    rintro v H' ⟨rfl, k, v', q, hk, rfl, hq⟩
    exact hs i k v' q σ _ hk p hq
  · have e : i = kvs.length := by omega
    subst e
    exact Or.inl ⟨⟨hq, Nat.le_refl _⟩, hd σ H p⟩
section
variable {g : TG} {tt : TT} {te : TE} {vs : List Nat} {σ : L2.St} {Q : VK} {H1 : Hp}
theorem lcR_keysT {d : Addr} {o : Obj} {kvs : List (List Key × V)} (f : List Key → Option V) (hS : H1 d = some (.frz o (.dT kvs))) (len : kvs.length < sizeLine) (t : ∀ (i : Nat) (k : List Key) (v : V) (q : Addr) (H' : Hp), kvs[i]? = some (k, v) → Ex H1 H' → H' q = some (.tup (k.map kV)) → turnR g tt te vs σ (.ref q) (f k) H')
    (q : ∀ D H', H1 D = none → Ex H1 H' → H' D = some (.lst (kvs.filterMap fun e => f e.1)) → Q (.ref D) H') : lcR g tt te vs σ Q (Itkt d o kvs) H1 := by
  intro D hD
  refine ⟨fun i m H => i ≤ kvs.length ∧ m = kvs.length - i ∧ Ex H1 H ∧ H D = some (.lst ((kvs.take i).filterMap fun e => f e.1)), ⟨kvs.length, Nat.zero_le _, rfl, Evl.Ex.new hD, upd_same⟩, ?_⟩
  rintro i m H ⟨hi, rfl, e, hd⟩
  have hq := e _ _ hS
  rcases Nat.lt_or_ge i kvs.length with h | h
  · refine Or.inr ⟨⟨hq, h⟩, fun H' => Ex H1 H' ∧ H' D = some (.lst ((kvs.take (i + 1)).filterMap fun e => f e.1)), fun H' p => ⟨kvs.length - (i + 1), by omega, by omega, rfl, p⟩, ?_⟩
    rintro v H' ⟨rfl, k, v', q, hk, rfl, hq⟩
    have rs : (kvs.take (i + 1)).filterMap (fun e => f e.1) = (kvs.take i).filterMap (fun e => f e.1) ++ (f k).toList := by
      rw [List.take_add_one, hk, List.filterMap_append]
      cases h : f k <;> simp [h]
    refine t i k v' q _ hk e hq _ (Evl.Ex.refl _) (fun o' H4 => match o' with | some y => ∃ acc, H4 D = some (.lst acc) ∧ acc.length < sizeLine ∧ (Ex H1 (upd H4 D (.lst (acc ++ [y]))) ∧ upd H4 D (.lst (acc ++ [y])) D = some (.lst ((kvs.take (i + 1)).filterMap fun e => f e.1))) | none => Ex H1 H4 ∧ H4 D = some (.lst ((kvs.take (i + 1)).filterMap fun e => f e.1))) fun H'' e2 => ?_
    rw [rs]
    have e3 := e.trans e2
    cases hf : f k with
    | none => exact ⟨e3, by rw [e2 _ _ hd]; simp⟩
    | some y =>
      refine ⟨_, e2 _ _ hd, Nat.lt_of_le_of_lt (Nat.le_trans (List.length_filterMap_le _ _) (by rw [List.length_take]; omega)) len, Evl.Ex.mut e3 hD, upd_same⟩
  · have ei : i = kvs.length := by omega
    subst ei
    rw [List.take_length] at hd
    exact Or.inl ⟨⟨hq, Nat.le_refl _⟩, q D H hD e hd⟩
end
/-! a tuple of tuples of the head -/
def itA (K : PySem.W.Frag) (a : Addr) (i : Nat) : Addr := match K.lookup a with
  | some ⟨_, _, .seq its _, _⟩ => match its[i]? with
    | some (.ref b) => b
    | _ => 0
  | _ => 0
def tup2B (K : PySem.W.Frag) (a : Addr) (ls : List (List V)) : Bool := tupB K a ((List.range ls.length).map fun i => V.ref (itA K a i)) && (List.range ls.length).all fun i => tupB K (itA K a i) (ls.getD i [])
def Tup2 (K : PySem.W.Frag) (a : Addr) (ls : List (List V)) : Prop := (∀ H, SqT K H a ((List.range ls.length).map fun i => V.ref (itA K a i))) ∧ ∀ i, i < ls.length → ∀ H, SqT K H (itA K a i) (ls.getD i [])
theorem tup2B_ok {K : PySem.W.Frag} {a : Addr} {ls : List (List V)} (h : tup2B K a ls = true) : Tup2 K a ls := by
  unfold tup2B at h
  rw [Bool.and_eq_true, List.all_eq_true] at h
  exact ⟨tupB_ok h.1, fun i hi => tupB_ok (h.2 i (List.mem_range.mpr hi))⟩
structure FNEXT (K : PySem.W.Frag) : Prop where
  tu : Tup2 K (He.ga K "NEXT_CELLS") [[.int (-1), .int 0], [.int 0, .int (-1)], [.int 0, .int 1], [.int 1, .int 0]]
end Mine
namespace Mine
open PySem PySem.Spec PyProof.Rows L2
open Evl (Ex)
/-! o.m as a value, m a method -/
def tBndM (C : Addr) (m : Str) (g : Addr) (ta : TE) : TE := fun σ H Q => ta σ H fun x H1 => ∃ a dx fs, x = .ref a ∧ H1 a = some (.ins C dx fs) ∧ fs.lookup m = none ∧ ∀ p, H1 p = none → Q (.ref p) (upd H1 p (.met g a))
theorem pe_bndM {X : Cx} {e : Expr} {ta : TE} {C g : Addr} {m : Str} {pos : Pos} (he : PE X e ta) (c : Cls X.K C) (b : BMeth X.K C m g)
    (ht : eval (.Attribute e m pos) X.env = (do
        let o ← eval e X.env
        standAt pos.atName
        let r ← holding [o] (getAttr o m true)
        letTemporaryGo e o r
        pure r) := by rfl) : PE X (.Attribute e m pos) (tBndM C m g ta) := by
  refine ⟨fun pins s σ H Q I h => ?_⟩
  refine Attribute_any_ (thn (he.run pins s σ H _ I h) ?_) ht
  rintro u s1 ⟨x, H1, I1, rx, a, dx, fs, ex, ea, l, q⟩
  subst ex
  exact op_getbound I1 ea c b l rx q
theorem k_bndM {C : Addr} {m : Str} {g : Addr} {ta : TE} {σ : L2.St} {H : Hp} {Q : VK} (q : ta σ H fun x H1 => ∃ a dx fs, x = .ref a ∧ H1 a = some (.ins C dx fs) ∧ fs.lookup m = none ∧ ∀ p, H1 p = none → Q (.ref p) (upd H1 p (.met g a))) : tBndM C m g ta σ H Q := q
open PySem.W (Frag)
theorem bm_ok {K : Frag} {C m : Str} (h : bmB K C m = true) : BMeth K (He.ga K C) m (He.ma K (He.ga K C) m) := by
  unfold bmB at h
  rw [Bool.and_eq_true, Bool.and_eq_true, Bool.and_eq_true, Bool.and_eq_true] at h
  obtain ⟨h1, h2, h3, h4, h5⟩ := h
  exact ⟨He.meth_ok h1, He.eqO_ok h2, of_decide_eq_true h3, of_decide_eq_true h4, h5⟩
/-! the objects of an order -/
structure FPairs (K : PySem.W.Frag) : Prop where
  cl : Cls K (He.ga K "Pairs")
  n1 : NoAttr K (He.ga K "Pairs") "_yard"
  n2 : NoAttr K (He.ga K "Pairs") "_wins"
  n3 : NoAttr K (He.ga K "Pairs") "_lefts"
  n4 : NoAttr K (He.ga K "Pairs") "_rights"
  n5 : NoAttr K (He.ga K "Pairs") "_known"
structure FRanks (K : PySem.W.Frag) : Prop where
  cl : Cls K (He.ga K "Ranks")
  n1 : NoAttr K (He.ga K "Ranks") "_pairs"
  n2 : NoAttr K (He.ga K "Ranks") "_bits"
  n3 : NoAttr K (He.ga K "Ranks") "_forms"
  n4 : NoAttr K (He.ga K "Ranks") "_better"
  n5 : NoAttr K (He.ga K "Ranks") "_asked"
structure FSimpleSums (K : PySem.W.Frag) : Prop where
  cl : Cls K (He.ga K "SimpleSums")
  n1 : NoAttr K (He.ga K "SimpleSums") "_yard"
  n2 : NoAttr K (He.ga K "SimpleSums") "_reduced"
  n3 : NoAttr K (He.ga K "SimpleSums") "_dyads"
  n4 : NoAttr K (He.ga K "SimpleSums") "_sums"
structure FDyads (K : PySem.W.Frag) : Prop where
  cl : Cls K (He.ga K "Dyads")
  n1 : NoAttr K (He.ga K "Dyads") "_yard"
  n2 : NoAttr K (He.ga K "Dyads") "_numbers"
  n3 : NoAttr K (He.ga K "Dyads") "_forms"
structure FSimpleForms (K : PySem.W.Frag) : Prop where
  cl : Cls K (He.ga K "SimpleForms")
  n1 : NoAttr K (He.ga K "SimpleForms") "_yard"
  n2 : NoAttr K (He.ga K "SimpleForms") "_own"
  n3 : NoAttr K (He.ga K "SimpleForms") "_pairs"
  n4 : NoAttr K (He.ga K "SimpleForms") "_ranks"
  n5 : NoAttr K (He.ga K "SimpleForms") "_sums"
  n6 : NoAttr K (He.ga K "SimpleForms") "_known_sums"
  n7 : NoAttr K (He.ga K "SimpleForms") "_forms"
  n8 : NoAttr K (He.ga K "SimpleForms") "_own_forms"
structure FOrder (K : PySem.W.Frag) : Prop where
  cl : Cls K (He.ga K "Order")
  n1 : NoAttr K (He.ga K "Order") "_yard"
  n2 : NoAttr K (He.ga K "Order") "_wins"
  n3 : NoAttr K (He.ga K "Order") "_simple"
/-- an object under way: its fields -/
theorem k_sfld {K : PySem.W.Frag} {te tv : TE} {f : Str} {D : Ends} {σ : L2.St} {H : Hp} (q : sFld K te tv f D σ H) : sFld K te tv f D σ H := q
/-- all but one object stays, and no new one was there before -/
structure Mk1 (p : Addr) (H H' : Hp) : Prop where
  kp : ∀ c o, H c = some o → c ≠ p → H' c = some o
  fr : ∀ c, H' c = none → H c = none
theorem Mk1.refl (p : Addr) (H : Hp) : Mk1 p H H := ⟨fun _ _ z _ => z, fun _ z => z⟩
theorem Mk1.ex {p : Addr} {H H1 H2 : Hp} (m : Mk1 p H H1) (e : Ex H1 H2) : Mk1 p H H2 := ⟨fun c o z n => e _ _ (m.kp c o z n), fun c z => m.fr c (Evl.fresh_back e z)⟩
theorem Mk1.set {p : Addr} {H H1 : Hp} {o : HO} (m : Mk1 p H H1) (h : ∃ u, H p = some u) : Mk1 p H (upd H1 p o) := ⟨fun c x z n => (upd_ne n).trans (m.kp c x z n), fun c z => by
  by_cases e : c = p
  · rw [e, upd_same] at z; cases z
  · rw [upd_ne e] at z
    exact m.fr c z⟩
theorem Mk1.trans {p : Addr} {H H1 H2 : Hp} (a : Mk1 p H H1) (b : Mk1 p H1 H2) : Mk1 p H H2 := ⟨fun c o z n => b.kp c o (a.kp c o z n) n, fun c z => a.fr c (b.fr c z)⟩
end Mine
namespace Mine
open PySem PySem.Spec PyProof.Rows L2
open Evl (Ex)

local macro_rules | `(tactic| walk_at "mcond") => `(tactic| first
  | (show (0 : Int) < _; omega)
  | (show (0 : Int) ≤ _; omega)
  | (show CDiv _ _; exact ⟨by omega, by omega⟩)
  | (show CPow _ _; exact ⟨by omega, by omega, by omega⟩)
  | (show CMul _ _; exact Or.inl ⟨by omega, by omega⟩)
  | (show CMul _ _; exact Or.inr ⟨by omega, by omega⟩)
  | assumption)
local macro_rules | `(tactic| walk_at "mtr") => `(tactic| first
  | assumption
  | (refine tr_step (H := ?_) ?_ ?_; rotate_left; (focus assumption); walk_at "mtr"))
local macro_rules | `(tactic| walk_at "msq") => `(tactic| first
  | assumption
  | (refine k_sq ?_; walk_at "mtr")
  | (refine k_st ?_; walk_at "mtr")
  | exact Evl.ex_l (by first | assumption | solve_by_elim) (by assumption)
  | exact Evl.ex_t (by first | assumption | solve_by_elim) (by assumption))
local macro_rules | `(tactic| walk_at "mins") => `(tactic| walk_at "mtr")
local macro_rules | `(tactic| walk_at "mcls") => `(tactic| first | assumption | (apply FDyadic.cl; assumption))
local macro_rules | `(tactic| walk_at "mna") => `(tactic| first | assumption | (apply FDyadic.nt; assumption) | (apply FDyadic.np; assumption))
local macro_rules | `(tactic| walk_at "mlk") => `(tactic| first | assumption | exact dfs_top _ _ | exact dfs_power _ _)
local macro_rules | `(tactic| walk_at "mdy") => `(tactic| first
  | assumption
  | (refine dy_tr (H := ?_) ?_ ?_; rotate_left; (focus assumption); walk_at "mdy"))
local macro_rules | `(tactic| walk_at "mst") => `(tactic| first
  | with_reducible refine k_seq ?_
  | with_reducible refine k_asg ?_
  | ((with_reducible refine k_fldv (v := ?_) (fs := ?_) (C := ?_) (dx := ?_) (a := ?_) ?_ ?_ ?_ ?_ ?_ ?_); rotate_left 5; (focus exact rfl); (focus walk_at "mins"); (focus walk_at "mcls"); (focus walk_at "mna"); (focus walk_at "mlk"))
  | with_reducible refine k_name ?_
  | ((with_reducible refine k_var (v := ?_) ?_ ?_); rotate_left; (focus exact rfl))
  | with_reducible refine k_c ?_
  | with_reducible refine k_op ?_
  | with_reducible refine k_un ?_
  | with_reducible refine k_I0 ?_
  | with_reducible refine k_pow12 ?_
  | with_reducible refine k_pow18 ?_
  | with_reducible refine k_pow11 ?_
  | with_reducible refine k_pow9 ?_
  | with_reducible refine k_pow30 ?_
  | ((with_reducible refine k_shl1 ?_ ?_); (focus (constructor <;> omega)); intro _ _ _)
  | ((with_reducible refine k_minL ?_); intro _ _ _ _)
  | ((with_reducible refine k_maxL ?_); intro _ _ _ _)
  | ((with_reducible refine k_I ?_ ?_); (focus walk_at "mcond"))
  | with_reducible refine k_U ?_
  | with_reducible refine k_eqI ?_
  | with_reducible refine k_eqB ?_
  | with_reducible refine k_neI ?_
  | with_reducible refine k_isTy ?_
  | with_reducible refine k_isiII ?_
  | with_reducible refine k_isiIB ?_
  | with_reducible refine k_isiBB ?_
  | with_reducible refine k_isN ?_
  | with_reducible refine k_notN ?_
  | with_reducible refine k_chain ?_
  | with_reducible refine k_bl ?_
  | with_reducible refine k_test ?_
  | with_reducible refine k_B ?_
  | with_reducible refine k_and ?_
  | with_reducible refine k_or ?_
  | with_reducible refine k_not ?_
  | with_reducible refine k_if ?_
  | with_reducible refine k_ifS ?_
  | with_reducible refine k_andV ?_
  | with_reducible refine k_orV ?_
  | with_reducible refine k_notV ?_
  | with_reducible refine k_tup ?_
  | with_reducible refine k_lst ?_
  | with_reducible refine k_cb ?_
  | with_reducible refine k_nil ?_
  | with_reducible refine k_cons ?_
  | with_reducible refine k_rInt ?_
  | with_reducible refine k_rAbs ?_
  | with_reducible refine k_rMax ?_
  | with_reducible refine k_rMin ?_
  | ((with_reducible refine k_rLenL (ys := ?_) ?_ ?_); rotate_left; (focus walk_at "msq"))
  | ((with_reducible refine k_rLenT (ys := ?_) ?_ ?_); rotate_left; (focus walk_at "msq"))
  | with_reducible refine k_bm ?_
  | with_reducible refine k_bm0 ?_
  | ((with_reducible refine k_tyl (xs := ?_) ?_ ?_); rotate_left; (focus walk_at "msq"))
  | ((with_reducible refine k_rApp (xs := ?_) ?_ ?_ ?_); rotate_left; (focus walk_at "mtr"))
  | ((with_reducible refine dy_meth (t := ?_) (p := ?_) ?_ ?_ ?_ ?_); rotate_left 2; (focus walk_at "mdy"); (focus decide +kernel); (focus decide +kernel))
  | ((with_reducible refine dy_prop (t := ?_) (p := ?_) ?_ ?_); rotate_left 2; (focus walk_at "mdy"))
  | ((with_reducible refine dy_isC (t := ?_) (p := ?_) ?_ ?_); rotate_left 2; (focus walk_at "mdy"))
  | with_reducible refine k_call ?_
  | with_reducible refine k_meth ?_
  | with_reducible refine k_make ?_
  | with_reducible refine k_prop ?_
  | with_reducible refine k_ret ?_
  | with_reducible refine k_drop ?_
  | with_reducible refine k_next ?_
  | with_reducible refine k_for ?_
  | with_reducible refine k_rng1 ?_
  | with_reducible refine k_rng2 ?_
  | with_reducible refine k_ilist ?_
  | with_reducible refine k_itup ?_
  | with_reducible refine k_iteT ?_
  | with_reducible refine k_iteNT ?_
  | with_reducible refine k_iteNF ?_
  | with_reducible refine k_raise ?_
  | with_reducible refine k_iteF ?_
  | ((with_reducible refine k_ixT (xs := ?_) (v := ?_) ?_ ?_ ?_); rotate_left 2; (focus walk_at "msq"); (focus exact rfl))
  | with_reducible refine k_gnil ?_
  | with_reducible refine k_gcons ?_)
local macro_rules | `(tactic| walk_at "mcls") => `(tactic| first | assumption | (apply FYard.cl; assumption))
local macro_rules | `(tactic| walk_at "mna") => `(tactic| first | assumption | (apply FYard.nl; assumption) | (apply FYard.nr; assumption) | (apply FYard.nh; assumption) | (apply FYard.nn; assumption) | (apply FYard.nt; assumption))
local macro_rules | `(tactic| walk_at "mlk") => `(tactic| first | exact yfs_l _ | exact yfs_r _ | exact yfs_h _ | exact yfs_n _ | exact yfs_t _)
local macro_rules | `(tactic| walk_at "myd") => `(tactic| first
  | assumption
  | (refine YardAt.ex (H := ?_) ?_ ?_; rotate_right; (focus assumption); walk_at "myd"))
local macro_rules | `(tactic| walk_at "mst") => `(tactic| first
  | with_reducible refine k_sfl ?_
  | with_reducible refine k_lc ?_
  | with_reducible refine k_dnew ?_
  | with_reducible refine k_tru ?_
  | with_reducible refine k_rng3 ?_
  | with_reducible refine k_gsub ?_
  | with_reducible refine k_set1 ?_
  | with_reducible refine k_sadd ?_
  | with_reducible refine k_revL ?_
  | with_reducible refine k_nnot ?_
  | with_reducible refine k_nget ?_
  | with_reducible refine k_nput ?_
  | with_reducible refine k_dget ?_
  | with_reducible refine k_din ?_
  | with_reducible refine k_dnotin ?_
  | with_reducible refine k_dput ?_
  | with_reducible refine k_tsl ?_
  | with_reducible refine k_part ?_
  | with_reducible refine k_nopart ?_
  | with_reducible refine k_exi ?_
  | ((with_reducible refine k_rTupL (ys := ?_) ?_ ?_); rotate_left; (focus walk_at "msq"))
  | ((with_reducible refine k_rListL (ys := ?_) ?_ ?_); rotate_left; (focus walk_at "msq"))
  | ((with_reducible refine k_rListT (ys := ?_) ?_ ?_); rotate_left; (focus walk_at "msq"))
  | ((with_reducible refine k_in (ns := ?_) ?_ ?_); rotate_left; (focus walk_at "msq")))
def sp_Yard_d_init (P : Program) (w : World) (K : PySem.W.Frag) : Sp := fun vs H Q _ => ∃ (p dx : Addr), vs = [.ref p] ∧ H p = some (.ins (He.ga K "Yard") dx []) ∧
  ∀ H' F, F.y = p → (∀ c o, H c = some o → c ≠ p → H' c = some o ∧ Off F c) → YardAt P w K H' F [([], [])] [0] [(Sum.inl 0, V.int 0)] → Q .non H'
abbrev N_Yard_d_init : List Str := ["self"]
def t_Yard_d_init (P : Program) (w : World) (K : PySem.W.Frag) (E : XK) : TS := (tSeq (sFld K (tVar 0) (tLst (tCons (tTup tNil) tNil)) "_lefts") (tSeq (sFld K (tVar 0) (tLst (tCons (tTup tNil) tNil)) "_rights") (tSeq (sFld K (tVar 0) (tLst (tCons (tC (.int 0)) tNil)) "_heights") (tSeq (sFld K (tVar 0) (tNDisp P w (tTup (tCons (tTup tNil) (tCons (tTup tNil) tNil))) (tC (.int 0))) "_numbers") (sFld K (tVar 0) (tDisp [((tC (.int 0)), (tC (.int 0)))]) "_turned")))))
theorem len_Yard_d_init {P : Program} {w : World} {K : PySem.W.Frag} {vs : List V} {H : Hp} {Q : VK} {E : XK} (h : sp_Yard_d_init P w K vs H Q E) : vs.length = 1 := by
  obtain ⟨_, _, rfl, _⟩ := h; rfl
/-- all but p stays -/
def Bt (p : Addr) (H H' : Hp) : Prop := ∀ c o, H c = some o → c ≠ p → H' c = some o
theorem Bt.trans {p : Addr} {H H1 H2 : Hp} (a : Bt p H H1) (b : Bt p H1 H2) : Bt p H H2 := fun c o h n => b c o (a c o h n) n
theorem Bt.of {p : Addr} {H H1 : Hp} (a : Ex H H1) : Bt p H H1 := fun c o h _ => a c o h
theorem k_store {K : PySem.W.Frag} {R : L2.St → Hp → Prop} {σ : L2.St} {H2 : Hp} {p C dx : Addr} {fs : List (Str × V)} {f : Str} {v : V} (h : H2 p = some (.ins C dx fs)) (hc : Cls K C) (hn : NoAttr K C f) (hl : fs.length < 1000)
    (q : ∀ H3, Bt p H2 H3 → H3 p = some (.ins C dx (putF f v fs)) → R σ H3) :
    ∃ a C dx fs, V.ref p = V.ref a ∧ H2 a = some (.ins C dx fs) ∧ Cls K C ∧ NoAttr K C f ∧ fs.length < 1000 ∧ R σ (upd H2 a (.ins C dx (putF f v fs))) :=
  ⟨p, C, dx, fs, rfl, h, hc, hn, hl, q _ (fun c o e n => (upd_ne n).trans e) upd_same⟩
theorem pure_Yard_d_init {P : Program} {w : World} {K : PySem.W.Frag} (F : FYard K) (vs : List V) (H : Hp) (Q : VK) (E : XK) (h : sp_Yard_d_init P w K vs H Q E) : t_Yard_d_init P w K E { nx := fun _ H' => Q .non H', rt := Q } (start N_Yard_d_init vs) H := by
  obtain ⟨p, dx, rfl, hp, q⟩ := h
  unfold t_Yard_d_init
  repeat walk_at "mst"
  refine ⟨by decide, fun t1 n1 => ?_⟩
  have e1 := Evl.Ex.new (o := HO.tup []) n1
  have s1 : upd H t1 (HO.tup []) t1 = some (HO.tup []) := upd_same
  generalize upd H t1 (HO.tup []) = H1 at *
  repeat walk_at "mst"
  refine ⟨by show 1 ≤ sizeLine; decide, fun l nl => ?_⟩
  have e2 := Evl.Ex.new (o := HO.lst [V.ref t1]) nl
  have s2 : upd H1 l (HO.lst [V.ref t1]) l = some (HO.lst [V.ref t1]) := upd_same
  generalize upd H1 l (HO.lst [V.ref t1]) = H2 at *
  repeat walk_at "mst"
  refine k_store (e2 _ _ (e1 _ _ hp)) F.cl F.nl (by show 0 < 1000; decide) fun H3 b3 p3 => ?_
  have b03 : Bt p H H3 := (Bt.of (e1.trans e2)).trans b3
  have npt1 : t1 ≠ p := (ne_of_none hp n1).symm
  have npl : l ≠ p := (ne_of_none (e1 _ _ hp) nl).symm
  have t13 := b3 _ _ (e2 _ _ s1) npt1
  have l3 := b3 _ _ s2 npl
  have fresh3 : ∀ c, H3 c = none → H c = none := fun c n => by
    cases q : H c with
    | none => rfl
    | some o =>
      by_cases z : c = p
      · subst z; rw [p3] at n; cases n
      · rw [b03 _ _ q z] at n; cases n
  repeat walk_at "mst"
  refine ⟨by decide, fun t2 n2 => ?_⟩
  have e4 := Evl.Ex.new (o := HO.tup []) n2
  have s4 : upd H3 t2 (HO.tup []) t2 = some (HO.tup []) := upd_same
  generalize upd H3 t2 (HO.tup []) = H4 at *
  repeat walk_at "mst"
  refine ⟨by show 1 ≤ sizeLine; decide, fun r nr => ?_⟩
  have e5 := Evl.Ex.new (o := HO.lst [V.ref t2]) nr
  have s5 : upd H4 r (HO.lst [V.ref t2]) r = some (HO.lst [V.ref t2]) := upd_same
  generalize upd H4 r (HO.lst [V.ref t2]) = H5 at *
  repeat walk_at "mst"
  refine k_store (e5 _ _ (e4 _ _ p3)) F.cl F.nr (by rw [show (putF "_lefts" (V.ref l) []) = [(("_lefts" : Str), V.ref l)] from rfl]; show 1 < 1000; decide) fun H6 b6 p6 => ?_
  have b36 : Bt p H3 H6 := (Bt.of (e4.trans e5)).trans b6
  have npt2 : t2 ≠ p := (ne_of_none p3 n2).symm
  have npr : r ≠ p := (ne_of_none (e4 _ _ p3) nr).symm
  have nlr : l ≠ r := ne_of_none (e4 _ _ l3) nr
  have t26 := b6 _ _ (e5 _ _ s4) npt2
  have r6 := b6 _ _ s5 npr
  have l6 := b36 _ _ l3 npl
  have t16 := b36 _ _ t13 npt1
  repeat walk_at "mst"
  refine ⟨by show 1 ≤ sizeLine; decide, fun h nh => ?_⟩
  have e7 := Evl.Ex.new (o := HO.lst [V.int 0]) nh
  have s7 : upd H6 h (HO.lst [V.int 0]) h = some (HO.lst [V.int 0]) := upd_same
  generalize upd H6 h (HO.lst [V.int 0]) = H7 at *
  repeat walk_at "mst"
  refine k_store (e7 _ _ p6) F.cl F.nh (by have := length_putF "_rights" (V.ref r) (putF "_lefts" (V.ref l) []); have := length_putF "_lefts" (V.ref l) []; simp only [List.length_nil] at *; omega) fun H8 b8 p8 => ?_
  have b68 : Bt p H6 H8 := (Bt.of e7).trans b8
  have nph : h ≠ p := (ne_of_none p6 nh).symm
  have nlh : l ≠ h := ne_of_none l6 nh
  have nrh : r ≠ h := ne_of_none r6 nh
  have h8 := b8 _ _ s7 nph
  repeat walk_at "mst"
  refine fun n nn => ?_
  have e9 := Evl.Ex.new (o := NdO P w n []) nn
  have s9 : upd H8 n (NdO P w n []) n = some (NdO P w n []) := upd_same
  generalize upd H8 n (NdO P w n []) = H9 at *
  repeat walk_at "mst"
  refine ⟨by decide, fun u1 m1 => ?_⟩
  have e10 := Evl.Ex.new (o := HO.tup []) m1
  have s10 : upd H9 u1 (HO.tup []) u1 = some (HO.tup []) := upd_same
  generalize upd H9 u1 (HO.tup []) = H10 at *
  repeat walk_at "mst"
  refine ⟨by decide, fun u2 m2 => ?_⟩
  have e11 := Evl.Ex.new (o := HO.tup []) m2
  have s11 : upd H10 u2 (HO.tup []) u2 = some (HO.tup []) := upd_same
  generalize upd H10 u2 (HO.tup []) = H11 at *
  repeat walk_at "mst"
  refine ⟨by show 2 ≤ sizeLine; decide, fun k mk => ?_⟩
  have e12 := Evl.Ex.new (o := HO.tup [V.ref u1, V.ref u2]) mk
  have s12 : upd H11 k (HO.tup [V.ref u1, V.ref u2]) k = some (HO.tup [V.ref u1, V.ref u2]) := upd_same
  generalize upd H11 k (HO.tup [V.ref u1, V.ref u2]) = H12 at *
  repeat walk_at "mst"
  have kk : PrT H12 k ([], []) := ⟨u1, u2, s12, e12 _ _ (e11 _ _ s10), e12 _ _ s11⟩
  refine ⟨k, ([], []), 0, rfl, rfl, e12 _ _ (e11 _ _ (e10 _ _ s9)), kk, ?_⟩
  have g0 : H12 n = some (NdO P w n []) := e12 _ _ (e11 _ _ (e10 _ _ s9))
  have b13 : ∀ c o, H12 c = some o → c ≠ n → upd H12 n (NdO P w n [(([], []), k, 0)]) c = some o := fun c o z y => (upd_ne y).trans z
  have s13 : upd H12 n (NdO P w n [(([], []), k, 0)]) n = some (NdO P w n [(([], []), k, 0)]) := upd_same
  generalize upd H12 n (NdO P w n [(([], []), k, 0)]) = H13 at *
  have e8c : Ex H8 H12 := e9.trans (e10.trans (e11.trans e12))
  have npn : n ≠ p := (ne_of_none p8 nn).symm
  have e813 : ∀ c o, H8 c = some o → H13 c = some o := fun c o z => b13 _ _ (e8c _ _ z) (ne_of_none z nn)
  have kk13 : PrT H13 k ([], []) := kk.ex fun c xs z => b13 _ _ z (ne_of z g0 (by intro y; cases y))
  repeat walk_at "mst"
  refine k_store (e813 _ _ p8) F.cl F.nn (by have := length_putF "_heights" (V.ref h) (putF "_rights" (V.ref r) (putF "_lefts" (V.ref l) [])); have := length_putF "_rights" (V.ref r) (putF "_lefts" (V.ref l) []); have := length_putF "_lefts" (V.ref l) []; simp only [List.length_nil] at *; omega) fun H14 b14 p14 => ?_
  have n14 := b14 _ _ s13 npn
  have npk : k ≠ p := fun z => by
    obtain ⟨_, _, y, _⟩ := kk13
    rw [z, e813 _ _ p8] at y; cases y
  have kk14 : PrT H14 k ([], []) := by
    refine kk13.ex fun c xs z => b14 _ _ z fun y => ?_
    rw [y, e813 _ _ p8] at z; cases z
  have b814 : Bt p H8 H14 := fun c o z y => b14 _ _ (e813 _ _ z) y
  repeat walk_at "mst"
  refine fun t nt => ?_
  have e15 := Evl.Ex.new (o := HO.dK []) nt
  have s15 : upd H14 t (HO.dK []) t = some (HO.dK []) := upd_same
  generalize upd H14 t (HO.dK []) = H15 at *
  show tPairs _ _ _ _
  unfold tPairs
  repeat walk_at "mst"
  unfold tPairs
  refine ⟨s15, [(Sum.inl 0, V.int 0)], rfl, by decide, ?_⟩
  have b16 : ∀ c o, H15 c = some o → c ≠ t → upd H15 t (HO.dK (mergeK [] [(Sum.inl 0, V.int 0)])) c = some o := fun c o z y => (upd_ne y).trans z
  have s16 : upd H15 t (HO.dK (mergeK [] [(Sum.inl 0, V.int 0)])) t = some (HO.dK [(Sum.inl 0, V.int 0)]) := upd_same
  generalize upd H15 t (HO.dK (mergeK [] [(Sum.inl 0, V.int 0)])) = H16 at *
  have e1416 : ∀ c o, H14 c = some o → H16 c = some o := fun c o z => b16 _ _ (e15 _ _ z) (ne_of_none z nt)
  have npt : t ≠ p := (ne_of_none p14 nt).symm
  repeat walk_at "mst"
  refine k_store (e1416 _ _ p14) F.cl F.nt (by have := length_putF "_numbers" (V.ref n) (putF "_heights" (V.ref h) (putF "_rights" (V.ref r) (putF "_lefts" (V.ref l) []))); have := length_putF "_heights" (V.ref h) (putF "_rights" (V.ref r) (putF "_lefts" (V.ref l) [])); have := length_putF "_rights" (V.ref r) (putF "_lefts" (V.ref l) []); have := length_putF "_lefts" (V.ref l) []; simp only [List.length_nil] at *; omega) fun H17 b17 p17 => ?_
  have b1417 : Bt p H14 H17 := fun c o z y => b17 _ _ (e1416 _ _ z) y
  have b617 : Bt p H6 H17 := b68.trans (b814.trans b1417)
  have b017 : Bt p H H17 := b03.trans (b36.trans b617)
  refine q H17 ⟨p, dx, l, r, h, n, t⟩ rfl (fun c o z y => ⟨b017 _ _ z y, ?_⟩) ⟨p17, ⟨_, b617 _ _ l6 npl, rfl, fun i g e => ?_⟩, ⟨_, b617 _ _ r6 npr, rfl, fun i g e => ?_⟩, ⟨(b814.trans b1417) _ _ h8 nph, rfl⟩, ⟨_, b1417 _ _ n14 npn, fun x m => ?_, rfl, fun i g e => ?_⟩, b17 _ _ s16 npt, ⟨nlr, nlh, nrh⟩, fun i g e => ?_, ⟨rfl, by simp, fun i g e => ?_⟩⟩
  · have z3 := b03 _ _ z y
    have z6 := b36 _ _ z3 y
    have z8 := b68 _ _ z6 y
    have z14 := b814 _ _ z8 y
    exact ⟨ne_of_none (e1 _ _ z) nl, ne_of_none (e4 _ _ z3) nr, ne_of_none z6 nh, ne_of_none z8 nn, ne_of_none z14 nt⟩
  · cases i with
    | zero => cases e; exact ⟨t1, rfl, b617 _ _ t16 npt1⟩
    | succ i => simp at e
  · cases i with
    | zero => cases e; exact ⟨t2, rfl, b617 _ _ t26 npt2⟩
    | succ i => simp at e
  · rw [List.mem_singleton] at m
    subst m
    refine kk14.ex fun c xs z => b1417 _ _ z fun y => ?_
    rw [y, p14] at z; cases z
  · cases i with
    | zero => cases e; exact ⟨k, rfl⟩
    | succ i => simp at e
  · cases i with
    | zero => cases e; exact Or.inl ⟨rfl, rfl⟩
    | succ i => simp at e
  · cases i with
    | zero => cases e; exact ⟨⟨.nil, fun x m => nomatch m⟩, ⟨.nil, fun x m => nomatch m⟩⟩
    | succ i => simp at e
/-- a yard is made -/
theorem mk_yard {P : Program} {w : World} {K : PySem.W.Frag} {H : Hp} {Q : Addr → Hp → Prop} {E : XK} (k : ∀ F H', (∀ c o, H c = some o → H' c = some o ∧ Off F c) → YardAt P w K H' F [([], [])] [0] [(Sum.inl 0, V.int 0)] → Q F.y H') :
    ∀ x dx, H x = none → H dx = none → dx ≠ x → sp_Yard_d_init P w K (.ref x :: ([] ++ [])) (upd (upd H dx (.own x)) x (.ins (He.ga K "Yard") dx [])) (fun v H2 => v = .non ∧ Q x H2) E := by
  intro x dx hx hd hne
  refine ⟨x, dx, rfl, upd_same, fun H' F e fr Y => ⟨rfl, ?_⟩⟩
  subst e
  refine k F H' (fun c o z => ?_) Y
  have h1 : c ≠ F.y := ne_of_none z hx
  refine fr c o ?_ h1
  rw [upd_ne h1, upd_ne (ne_of_none z hd)]
  exact z
def sp_Wins_d_init (K : PySem.W.Frag) : Sp := fun vs H Q _ => ∃ (p dx y : Addr), vs = [.ref p, .ref y] ∧ H p = some (.ins (He.ga K "Wins") dx []) ∧ ∀ l r H', H l = none → H r = none → (∀ c o, H c = some o → c ≠ p → H' c = some o) → (∀ G, WnAt K H' p dx y l r G 0) → Q .non H'
local macro_rules | `(tactic| walk_at "new") => `(tactic| ((first | refine ⟨fits (Nat.le_of_ble_eq_true rfl), ?_⟩ | skip); intro p np; generalize hq : upd _ p _ = H1; have e1 := nx np hq; have s1 := nS hq; clear hq))
abbrev N_Wins_d_init : List Str := ["self", "yard"]
def t_Wins_d_init (K : PySem.W.Frag) (E : XK) : TS := (tSeq (sFld K (tVar 0) (tVar 1) "_yard") (tSeq (sFld K (tVar 0) (tLst tNil) "_left") (sFld K (tVar 0) (tLst tNil) "_right")))
theorem len_Wins_d_init {K : PySem.W.Frag} {vs : List V} {H : Hp} {Q : VK} {E : XK} (h : sp_Wins_d_init K vs H Q E) : vs.length = 2 := by
  obtain ⟨_, _, _, rfl, _⟩ := h; rfl
theorem pure_Wins_d_init {K : PySem.W.Frag} (F : FWins K) (vs : List V) (H : Hp) (Q : VK) (E : XK) (h : sp_Wins_d_init K vs H Q E) : t_Wins_d_init K E { nx := fun _ H' => Q .non H', rt := Q } (start N_Wins_d_init vs) H := by
  obtain ⟨p, dx, y, rfl, hp, q⟩ := h
  obtain ⟨cl, ny, nl, nr⟩ := F
  unfold t_Wins_d_init
  repeat walk_at "mst"
  refine ⟨p, _, dx, [], rfl, hp, cl, ny, by show 0 < 1000; decide, ?_⟩
  have p1 : upd H p (HO.ins (He.ga K "Wins") dx (putF "_yard" (.ref y) [])) p = some (.ins (He.ga K "Wins") dx (putF "_yard" (.ref y) [])) := upd_same
  have k1 : ∀ c o, H c = some o → c ≠ p → upd H p (HO.ins (He.ga K "Wins") dx (putF "_yard" (.ref y) [])) c = some o := fun c o z n => (upd_ne n).trans z
  have f1 : ∀ c, upd H p (HO.ins (He.ga K "Wins") dx (putF "_yard" (.ref y) [])) c = none → H c = none := fun c z => by
    by_cases h : c = p
    · rw [h, upd_same] at z; cases z
    · rwa [upd_ne h] at z
  generalize upd H p (HO.ins (He.ga K "Wins") dx (putF "_yard" (.ref y) [])) = H1 at *
  repeat walk_at "mst"
  walk_at "new"; rename_i l nl_ H2 e2 s2
  have nlp : l ≠ p := fun h => by rw [h, p1] at nl_; cases nl_
  repeat walk_at "mst"
  refine ⟨p, _, dx, _, rfl, e2 _ _ p1, cl, nl, by show 1 < 1000; decide, ?_⟩
  have p3 : upd H2 p (HO.ins (He.ga K "Wins") dx (putF "_left" (.ref l) (putF "_yard" (.ref y) []))) p = some (.ins (He.ga K "Wins") dx (putF "_left" (.ref l) (putF "_yard" (.ref y) []))) := upd_same
  have k3 : ∀ c o, H c = some o → c ≠ p → upd H2 p (HO.ins (He.ga K "Wins") dx (putF "_left" (.ref l) (putF "_yard" (.ref y) []))) c = some o := fun c o z n => (upd_ne n).trans (e2 _ _ (k1 c o z n))
  have l3 : upd H2 p (HO.ins (He.ga K "Wins") dx (putF "_left" (.ref l) (putF "_yard" (.ref y) []))) l = some (.lst []) := (upd_ne nlp).trans s2
  have f3 : ∀ c, upd H2 p (HO.ins (He.ga K "Wins") dx (putF "_left" (.ref l) (putF "_yard" (.ref y) []))) c = none → H c = none := fun c z => by
    by_cases h : c = p
    · rw [h, upd_same] at z; cases z
    · rw [upd_ne h] at z
      exact f1 c (Evl.fresh_back e2 z)
  generalize upd H2 p (HO.ins (He.ga K "Wins") dx (putF "_left" (.ref l) (putF "_yard" (.ref y) []))) = H3 at *
  repeat walk_at "mst"
  walk_at "new"; rename_i r nr_ H4 e4 s4
  have nrp : r ≠ p := fun h => by rw [h, p3] at nr_; cases nr_
  have nlr : l ≠ r := ne_of_none l3 nr_
  repeat walk_at "mst"
  refine ⟨p, _, dx, _, rfl, e4 _ _ p3, cl, nr, by show 2 < 1000; decide, ?_⟩
  exact q l r _ (f1 l nl_) (f3 r nr_) (fun c o z n => (upd_ne n).trans (e4 _ _ (k3 c o z n))) fun G => ⟨upd_same, (upd_ne nlp).trans (e4 _ _ l3), (upd_ne nrp).trans s4, nlr⟩
theorem mk_wins {K : PySem.W.Frag} {H : Hp} {Q : Addr → Hp → Prop} {E : XK} {y : Addr} (k : ∀ x dx l r H', H x = none → H l = none → H r = none → Ex H H' → (∀ G, WnAt K H' x dx y l r G 0) → Q x H') :
    ∀ x dx, H x = none → H dx = none → dx ≠ x → sp_Wins_d_init K (.ref x :: ([.ref y] ++ [])) (upd (upd H dx (.own x)) x (.ins (He.ga K "Wins") dx [])) (fun v H2 => v = .non ∧ Q x H2) E := by
  intro x dx hx hd hne
  have e : Ex H (upd (upd H dx (.own x)) x (.ins (He.ga K "Wins") dx [])) := (Evl.Ex.new hd).trans (Evl.Ex.new (by rw [upd_ne hne.symm]; exact hx))
  refine ⟨x, dx, y, rfl, upd_same, fun l r H' hl hr kp W => ⟨rfl, k x dx l r H' hx ?_ ?_ (fun c o z => kp c o (e _ _ z) (ne_of_none z hx)) W⟩⟩
  · exact Evl.fresh_back e hl
  · exact Evl.fresh_back e hr
def pfs (y wn l r kn : Addr) : List (Str × V) := putF "_known" (.ref kn) (putF "_rights" (.ref r) (putF "_lefts" (.ref l) (putF "_wins" (.ref wn) (putF "_yard" (.ref y) []))))
/-- a Pairs object that has read nothing -/
structure PrAt (K : PySem.W.Frag) (H : Hp) (p dx y wn dw wl wr l r kn : Addr) : Prop where
  ins : H p = some (.ins (He.ga K "Pairs") dx (pfs y wn l r kn))
  wn : ∀ G, WnAt K H wn dw y wl wr G 0
  hl : H l = some (.lst [])
  hr : H r = some (.lst [])
  hk : H kn = some (.lst [])
  d1 : l ≠ r ∧ l ≠ kn ∧ r ≠ kn
  d2 : wl ≠ l ∧ wl ≠ r ∧ wl ≠ kn
  d3 : wr ≠ l ∧ wr ≠ r ∧ wr ≠ kn
def sp_Pairs_d_init (K : PySem.W.Frag) : Sp := fun vs H Q _ => ∃ (p dx y : Addr), vs = [.ref p, .ref y] ∧ H p = some (.ins (He.ga K "Pairs") dx []) ∧ ∀ wn dw wl wr l r kn H', Mk1 p H H' → PrAt K H' p dx y wn dw wl wr l r kn → H wl = none → H wr = none → H l = none → H r = none → H kn = none → Q .non H'
local macro_rules | `(tactic| walk_at "new") => `(tactic| ((first | refine ⟨fits (Nat.le_of_ble_eq_true rfl), ?_⟩ | skip); intro p np; generalize hq : upd _ p _ = H1; have e1 := nx np hq; have s1 := nS hq; clear hq))
abbrev N_Pairs_d_init : List Str := ["self", "yard"]
def t_Pairs_d_init (K : PySem.W.Frag) (E : XK) : TS := (tSeq (sFld K (tVar 0) (tVar 1) "_yard") (tSeq (sFld K (tVar 0) (tMake (He.ga K "Wins") (sp_Wins_d_init K) [] E0 (tCons (tVar 1) tNil)) "_wins") (tSeq (sFld K (tVar 0) (tLst tNil) "_lefts") (tSeq (sFld K (tVar 0) (tLst tNil) "_rights") (sFld K (tVar 0) (tLst tNil) "_known")))))
theorem len_Pairs_d_init {K : PySem.W.Frag} {vs : List V} {H : Hp} {Q : VK} {E : XK} (h : sp_Pairs_d_init K vs H Q E) : vs.length = 2 := by
  obtain ⟨_, _, _, rfl, _⟩ := h; rfl
theorem pure_Pairs_d_init {K : PySem.W.Frag} (F : FPairs K) (vs : List V) (H : Hp) (Q : VK) (E : XK) (h : sp_Pairs_d_init K vs H Q E) : t_Pairs_d_init K E { nx := fun _ H' => Q .non H', rt := Q } (start N_Pairs_d_init vs) H := by
  obtain ⟨p, dx, y, rfl, hp, q⟩ := h
  obtain ⟨cl, n1, n2, n3, n4, n5⟩ := F
  unfold t_Pairs_d_init
  have m0 := Mk1.refl p H
  repeat walk_at "mst"
  refine ⟨p, _, dx, [], rfl, hp, cl, n1, by show 0 < 1000; decide, ?_⟩
  have m1 := m0.set (o := HO.ins (He.ga K "Pairs") dx (putF "_yard" (.ref y) [])) ⟨_, hp⟩
  have p1 : upd H p (HO.ins (He.ga K "Pairs") dx (putF "_yard" (.ref y) [])) p = some _ := upd_same
  generalize upd H p (HO.ins (He.ga K "Pairs") dx (putF "_yard" (.ref y) [])) = H1 at *
  repeat walk_at "mst"
  refine mk_wins fun wn dw wl wr H2 nwn nwl nwr e2 W => ?_
  have m2 := m1.ex e2
  have p2 := e2 _ _ p1
  have W0 := W []
  have nwp : wn ≠ p := fun h => by rw [h, p1] at nwn; cases nwn
  have nlp : wl ≠ p := fun h => by rw [h, p1] at nwl; cases nwl
  have nrp : wr ≠ p := fun h => by rw [h, p1] at nwr; cases nwr
  have g1 := m1.fr _ nwl
  have g2 := m1.fr _ nwr
  repeat walk_at "mst"
  refine ⟨p, _, dx, _, rfl, p2, cl, n2, by show 1 < 1000; decide, ?_⟩
  have m3 := m2.set (o := HO.ins (He.ga K "Pairs") dx (putF "_wins" (.ref wn) (putF "_yard" (.ref y) []))) ⟨_, hp⟩
  have p3 : upd H2 p (HO.ins (He.ga K "Pairs") dx (putF "_wins" (.ref wn) (putF "_yard" (.ref y) []))) p = some _ := upd_same
  have W3 : ∀ G, WnAt K (upd H2 p (HO.ins (He.ga K "Pairs") dx (putF "_wins" (.ref wn) (putF "_yard" (.ref y) [])))) wn dw y wl wr G 0 := fun G => (W G).keep fun c o z h => (upd_ne (by rcases h with rfl | rfl | rfl <;> assumption)).trans z
  generalize upd H2 p (HO.ins (He.ga K "Pairs") dx (putF "_wins" (.ref wn) (putF "_yard" (.ref y) []))) = H3 at *
  repeat walk_at "mst"
  walk_at "new"; rename_i l nl_ H4 e4 s4
  have m4 := m3.ex e4
  have p4 := e4 _ _ p3
  have g3 := m3.fr _ nl_
  have lp : l ≠ p := fun h => by rw [h, p3] at nl_; cases nl_
  have d2a : wl ≠ l := ne_of_none (W3 []).hl nl_
  have d3a : wr ≠ l := ne_of_none (W3 []).hr nl_
  repeat walk_at "mst"
  refine ⟨p, _, dx, _, rfl, p4, cl, n3, by show 2 < 1000; decide, ?_⟩
  have m5 := m4.set (o := HO.ins (He.ga K "Pairs") dx (putF "_lefts" (.ref l) (putF "_wins" (.ref wn) (putF "_yard" (.ref y) [])))) ⟨_, hp⟩
  have p5 : upd H4 p (HO.ins (He.ga K "Pairs") dx (putF "_lefts" (.ref l) (putF "_wins" (.ref wn) (putF "_yard" (.ref y) [])))) p = some _ := upd_same
  have W5 : ∀ G, WnAt K (upd H4 p (HO.ins (He.ga K "Pairs") dx (putF "_lefts" (.ref l) (putF "_wins" (.ref wn) (putF "_yard" (.ref y) []))))) wn dw y wl wr G 0 := fun G => ((W3 G).ex e4).keep fun c o z h => (upd_ne (by rcases h with rfl | rfl | rfl <;> assumption)).trans z
  have keepP : ∀ {H2 : Hp} {o u : HO} {c : Addr}, H2 c = some u → c ≠ p → upd H2 p o c = some u := fun z n => (upd_ne n).trans z
  have l5 : upd H4 p (HO.ins (He.ga K "Pairs") dx (putF "_lefts" (.ref l) (putF "_wins" (.ref wn) (putF "_yard" (.ref y) [])))) l = some (.lst []) := keepP s4 lp
  generalize upd H4 p (HO.ins (He.ga K "Pairs") dx (putF "_lefts" (.ref l) (putF "_wins" (.ref wn) (putF "_yard" (.ref y) [])))) = H5 at *
  repeat walk_at "mst"
  walk_at "new"; rename_i r nr_ H6 e6 s6
  have m6 := m5.ex e6
  have p6 := e6 _ _ p5
  have g4 := m5.fr _ nr_
  have rp : r ≠ p := fun h => by rw [h, p5] at nr_; cases nr_
  have d2b : wl ≠ r := ne_of_none (W5 []).hl nr_
  have d3b : wr ≠ r := ne_of_none (W5 []).hr nr_
  have lr : l ≠ r := ne_of_none l5 nr_
  repeat walk_at "mst"
  refine ⟨p, _, dx, _, rfl, p6, cl, n4, by show 3 < 1000; decide, ?_⟩
  have m7 := m6.set (o := HO.ins (He.ga K "Pairs") dx (putF "_rights" (.ref r) (putF "_lefts" (.ref l) (putF "_wins" (.ref wn) (putF "_yard" (.ref y) []))))) ⟨_, hp⟩
  have p7 : upd H6 p (HO.ins (He.ga K "Pairs") dx (putF "_rights" (.ref r) (putF "_lefts" (.ref l) (putF "_wins" (.ref wn) (putF "_yard" (.ref y) []))))) p = some _ := upd_same
  have W7 : ∀ G, WnAt K (upd H6 p (HO.ins (He.ga K "Pairs") dx (putF "_rights" (.ref r) (putF "_lefts" (.ref l) (putF "_wins" (.ref wn) (putF "_yard" (.ref y) [])))))) wn dw y wl wr G 0 := fun G => ((W5 G).ex e6).keep fun c o z h => (upd_ne (by rcases h with rfl | rfl | rfl <;> assumption)).trans z
  have l7 : upd H6 p (HO.ins (He.ga K "Pairs") dx (putF "_rights" (.ref r) (putF "_lefts" (.ref l) (putF "_wins" (.ref wn) (putF "_yard" (.ref y) []))))) l = some (.lst []) := keepP (e6 _ _ l5) lp
  have r7 : upd H6 p (HO.ins (He.ga K "Pairs") dx (putF "_rights" (.ref r) (putF "_lefts" (.ref l) (putF "_wins" (.ref wn) (putF "_yard" (.ref y) []))))) r = some (.lst []) := keepP s6 rp
  generalize upd H6 p (HO.ins (He.ga K "Pairs") dx (putF "_rights" (.ref r) (putF "_lefts" (.ref l) (putF "_wins" (.ref wn) (putF "_yard" (.ref y) []))))) = H7 at *
  repeat walk_at "mst"
  walk_at "new"; rename_i kn nk_ H8 e8 s8
  have m8 := m7.ex e8
  have p8 := e8 _ _ p7
  have g5 := m7.fr _ nk_
  have kp_ : kn ≠ p := fun h => by rw [h, p7] at nk_; cases nk_
  repeat walk_at "mst"
  refine ⟨p, _, dx, _, rfl, p8, cl, n5, by show 4 < 1000; decide, ?_⟩
  exact q wn dw wl wr l r kn _ (m8.set ⟨_, hp⟩) ⟨upd_same, fun G => ((W7 G).ex e8).keep fun c o z h => (upd_ne (by rcases h with rfl | rfl | rfl <;> assumption)).trans z, keepP (e8 _ _ l7) lp, keepP (e8 _ _ r7) rp, keepP s8 kp_, ⟨lr, ne_of_none l7 nk_, ne_of_none r7 nk_⟩, ⟨d2a, d2b, ne_of_none (W7 []).hl nk_⟩, ⟨d3a, d3b, ne_of_none (W7 []).hr nk_⟩⟩ g1 g2 g3 g4 g5
theorem mk_pairs {K : PySem.W.Frag} {H : Hp} {Q : Addr → Hp → Prop} {E : XK} {y : Addr} (k : ∀ x dx wn dw wl wr l r kn H', H x = none → Ex H H' → PrAt K H' x dx y wn dw wl wr l r kn → H wl = none → H wr = none → H l = none → H r = none → H kn = none → Q x H') :
    ∀ x dx, H x = none → H dx = none → dx ≠ x → sp_Pairs_d_init K (.ref x :: ([.ref y] ++ [])) (upd (upd H dx (.own x)) x (.ins (He.ga K "Pairs") dx [])) (fun v H2 => v = .non ∧ Q x H2) E := by
  intro x dx hx hd hne
  have e : Ex H (upd (upd H dx (.own x)) x (.ins (He.ga K "Pairs") dx [])) := (Evl.Ex.new hd).trans (Evl.Ex.new (by rw [upd_ne hne.symm]; exact hx))
  exact ⟨x, dx, y, rfl, upd_same, fun wn dw wl wr l r kn H' m P h1 h2 h3 h4 h5 => ⟨rfl, k x dx wn dw wl wr l r kn H' hx (fun c o z => m.kp c o (e _ _ z) (ne_of_none z hx)) P (Evl.fresh_back e h1) (Evl.fresh_back e h2) (Evl.fresh_back e h3) (Evl.fresh_back e h4) (Evl.fresh_back e h5)⟩⟩
def sp_Yard_m_size (K : PySem.W.Frag) : Sp := fun vs H Q _ => ∃ (F : Foot) (xs : List V), vs = [.ref F.y] ∧ H F.y = some (.ins (He.ga K "Yard") F.dx (yfs F)) ∧ H F.l = some (.lst xs) ∧ Q (.int (xs.length : Int)) H
abbrev N_Yard_m_size : List Str := ["self"]
def t_Yard_m_size (K : PySem.W.Frag) (E : XK) : TS := (tRet (tCB (rLenQ K) (tCons (tFld K (tVar 0) "_lefts") tNil)))
theorem len_Yard_m_size {K : PySem.W.Frag} {vs : List V} {H : Hp} {Q : VK} {E : XK} (h : sp_Yard_m_size K vs H Q E) : vs.length = 1 := by
  obtain ⟨_, _, rfl, _⟩ := h; rfl
theorem pure_Yard_m_size {K : PySem.W.Frag} (FY : FYard K) (vs : List V) (H : Hp) (Q : VK) (E : XK) (h : sp_Yard_m_size K vs H Q E) : t_Yard_m_size K E { nx := fun _ H' => Q .non H', rt := Q } (start N_Yard_m_size vs) H := by
  obtain ⟨F, xs, rfl, hi, hl, q⟩ := h
  unfold t_Yard_m_size
  repeat walk_at "mst"
  exact q
theorem use_size {P : Program} {w : World} {K : PySem.W.Frag} {H : Hp} {Q : VK} {E : XK} {F : Foot} {G : List Pr} {hs : List Int} {ts : List (Key × V)} (Y : YardAt P w K H F G hs ts) (q : Q (.int (G.length : Int)) H) : sp_Yard_m_size K [.ref F.y] H Q E := by
  obtain ⟨xs, hl, rows⟩ := Y.ls
  have : xs.length = G.length := by rw [rows.1, List.length_map]
  exact ⟨F, xs, rfl, Y.ins, hl, by rw [this]; exact q⟩
def sp_Yard_m_check (P : Program) (w : World) (K : PySem.W.Frag) : Sp := fun vs H Q _ => ∃ (F : Foot) (G : List Pr) (hs : List Int) (ts : List (Key × V)) (g : Int), vs = [.ref F.y, .int g] ∧ YardAt P w K H F G hs ts ∧ 0 ≤ g ∧ g < G.length ∧ Q .non H
abbrev N_Yard_m_check : List Str := ["self", "game"]
def t_Yard_m_check (P : Program) (w : World) (K : PySem.W.Frag) (E : XK) : TS := (tIfS (tNot (tTest (tChain rLeI rLtI (tC (.int 0)) (tVar 1) (tCB (rLenQ K) (tCons (tFld K (tVar 0) "_lefts") tNil))))) tNever tNext)
theorem len_Yard_m_check {P : Program} {w : World} {K : PySem.W.Frag} {vs : List V} {H : Hp} {Q : VK} {E : XK} (h : sp_Yard_m_check P w K vs H Q E) : vs.length = 2 := by
  obtain ⟨_, _, _, _, _, rfl, _⟩ := h; rfl
theorem pure_Yard_m_check {P : Program} {w : World} {K : PySem.W.Frag} (FY : FYard K) (vs : List V) (H : Hp) (Q : VK) (E : XK) (h : sp_Yard_m_check P w K vs H Q E) : t_Yard_m_check P w K E { nx := fun _ H' => Q .non H', rt := Q } (start N_Yard_m_check vs) H := by
  obtain ⟨F, G, hs, ts, g, rfl, Y, g0, g1, q⟩ := h
  obtain ⟨xs, hl, rows⟩ := Y.ls
  have hi := Y.ins
  have len : xs.length = G.length := by rw [rows.1, List.length_map]
  unfold t_Yard_m_check
  repeat walk_at "mst"
  refine k_iteD (fun _ => ?_) (fun h => absurd g0 h)
  repeat walk_at "mst"
  exact k_iteN (fun h => absurd (by rw [len]; exact g1) h) (fun _ => q)
theorem use_check {P : Program} {w : World} {K : PySem.W.Frag} {H : Hp} {Q : VK} {E : XK} {F : Foot} {G : List Pr} {hs : List Int} {ts : List (Key × V)} {g : Int} (Y : YardAt P w K H F G hs ts) (b : 0 ≤ g ∧ g < G.length) (q : Q .non H) : sp_Yard_m_check P w K (.ref F.y :: ([.int g] ++ [])) H Q E := ⟨F, G, hs, ts, g, rfl, Y, b.1, b.2, q⟩
def sp_Yard_m_lefts (P : Program) (w : World) (K : PySem.W.Frag) : Sp := fun vs H Q _ => ∃ (F : Foot) (G : List Pr) (hs : List Int) (ts : List (Key × V)) (k : Nat) (g : Pr), vs = [.ref F.y, .int k] ∧ YardAt P w K H F G hs ts ∧ G[k]? = some g ∧
  ∀ p H', H p = none → Ex H H' → H' p = some (.lst (g.1.map V.int)) → Q (.ref p) H'
abbrev N_Yard_m_lefts : List Str := ["self", "game"]
def t_Yard_m_lefts (P : Program) (w : World) (K : PySem.W.Frag) (E : XK) : TS := (tSeq (tDrop (tMeth (He.ga K "Yard") "check" (sp_Yard_m_check P w K) [] E0 (tVar 0) (tCons (tVar 1) tNil))) (tRet (tCB (rListQ K) (tCons (tOp (rIxL K) (tFld K (tVar 0) "_lefts") (tVar 1)) tNil))))
theorem len_Yard_m_lefts {P : Program} {w : World} {K : PySem.W.Frag} {vs : List V} {H : Hp} {Q : VK} {E : XK} (h : sp_Yard_m_lefts P w K vs H Q E) : vs.length = 2 := by
  obtain ⟨_, _, _, _, _, _, rfl, _⟩ := h; rfl
theorem pure_Yard_m_lefts {P : Program} {w : World} {K : PySem.W.Frag} (FY : FYard K) (vs : List V) (H : Hp) (Q : VK) (E : XK) (h : sp_Yard_m_lefts P w K vs H Q E) : t_Yard_m_lefts P w K E { nx := fun _ H' => Q .non H', rt := Q } (start N_Yard_m_lefts vs) H := by
  obtain ⟨F, G, hs, ts, k, g, rfl, Y, hk, q⟩ := h
  obtain ⟨xs, hl, rows⟩ := Y.ls
  have hi := Y.ins
  have lk := (List.getElem?_eq_some_iff.mp hk).1
  obtain ⟨a, ha, hg⟩ := rows.2 k g.1 (by rw [List.getElem?_map, hk]; rfl)
  unfold t_Yard_m_lefts
  repeat walk_at "mst"
  refine Y.meth (by decide +kernel) (by decide +kernel) (by decide +kernel) (by decide +kernel) (by decide +kernel) ?_
  repeat walk_at "mst"
  refine use_check Y ⟨by omega, by omega⟩ ?_
  repeat walk_at "mst"
  refine k_ixL (k_sq hl) (atI_nat ha) ?_
  repeat walk_at "mst"
  exact fun p n => q p _ n (Evl.Ex.new n) upd_same
theorem use_lefts {P : Program} {w : World} {K : PySem.W.Frag} {H : Hp} {Q : VK} {E : XK} {F : Foot} {G : List Pr} {hs : List Int} {ts : List (Key × V)} {k : Nat} {g : Pr} (Y : YardAt P w K H F G hs ts) (hk : G[k]? = some g) (q : ∀ p H', H p = none → Ex H H' → H' p = some (.lst (g.1.map V.int)) → Q (.ref p) H') :
    sp_Yard_m_lefts P w K (.ref F.y :: ([.int (k : Int)] ++ [])) H Q E := ⟨F, G, hs, ts, k, g, rfl, Y, hk, q⟩
def sp_Yard_m_rights (P : Program) (w : World) (K : PySem.W.Frag) : Sp := fun vs H Q _ => ∃ (F : Foot) (G : List Pr) (hs : List Int) (ts : List (Key × V)) (k : Nat) (g : Pr), vs = [.ref F.y, .int k] ∧ YardAt P w K H F G hs ts ∧ G[k]? = some g ∧
  ∀ p H', H p = none → Ex H H' → H' p = some (.lst (g.2.map V.int)) → Q (.ref p) H'
abbrev N_Yard_m_rights : List Str := ["self", "game"]
def t_Yard_m_rights (P : Program) (w : World) (K : PySem.W.Frag) (E : XK) : TS := (tSeq (tDrop (tMeth (He.ga K "Yard") "check" (sp_Yard_m_check P w K) [] E0 (tVar 0) (tCons (tVar 1) tNil))) (tRet (tCB (rListQ K) (tCons (tOp (rIxL K) (tFld K (tVar 0) "_rights") (tVar 1)) tNil))))
theorem len_Yard_m_rights {P : Program} {w : World} {K : PySem.W.Frag} {vs : List V} {H : Hp} {Q : VK} {E : XK} (h : sp_Yard_m_rights P w K vs H Q E) : vs.length = 2 := by
  obtain ⟨_, _, _, _, _, _, rfl, _⟩ := h; rfl
theorem pure_Yard_m_rights {P : Program} {w : World} {K : PySem.W.Frag} (FY : FYard K) (vs : List V) (H : Hp) (Q : VK) (E : XK) (h : sp_Yard_m_rights P w K vs H Q E) : t_Yard_m_rights P w K E { nx := fun _ H' => Q .non H', rt := Q } (start N_Yard_m_rights vs) H := by
  obtain ⟨F, G, hs, ts, k, g, rfl, Y, hk, q⟩ := h
  obtain ⟨xs, hl, rows⟩ := Y.rs
  have hi := Y.ins
  have lk := (List.getElem?_eq_some_iff.mp hk).1
  obtain ⟨a, ha, hg⟩ := rows.2 k g.2 (by rw [List.getElem?_map, hk]; rfl)
  unfold t_Yard_m_rights
  repeat walk_at "mst"
  refine Y.meth (by decide +kernel) (by decide +kernel) (by decide +kernel) (by decide +kernel) (by decide +kernel) ?_
  repeat walk_at "mst"
  refine use_check Y ⟨by omega, by omega⟩ ?_
  repeat walk_at "mst"
  refine k_ixL (k_sq hl) (atI_nat ha) ?_
  repeat walk_at "mst"
  exact fun p n => q p _ n (Evl.Ex.new n) upd_same
theorem use_rights {P : Program} {w : World} {K : PySem.W.Frag} {H : Hp} {Q : VK} {E : XK} {F : Foot} {G : List Pr} {hs : List Int} {ts : List (Key × V)} {k : Nat} {g : Pr} (Y : YardAt P w K H F G hs ts) (hk : G[k]? = some g) (q : ∀ p H', H p = none → Ex H H' → H' p = some (.lst (g.2.map V.int)) → Q (.ref p) H') :
    sp_Yard_m_rights P w K (.ref F.y :: ([.int (k : Int)] ++ [])) H Q E := ⟨F, G, hs, ts, k, g, rfl, Y, hk, q⟩
def sp_Wins_m_catch_up (P : Program) (w : World) (K : PySem.W.Frag) : Sp := fun vs H Q _ => ∃ (F : Foot) (G : List Pr) (hs : List Int) (ts : List (Key × V)) (a dx l r : Addr) (n : Nat), vs = [.ref a] ∧ YardAt P w K H F G hs ts ∧ WnAt K H a dx F.y l r G n ∧ n ≤ G.length ∧ G.length ≤ 1000 ∧ Off F l ∧ Off F r ∧
  ∀ H', (∀ c o, H c = some o → c ≠ l → c ≠ r → H' c = some o) → YardAt P w K H' F G hs ts → WnAt K H' a dx F.y l r G G.length → Q .non H'
local macro_rules | `(tactic| walk_at "mlk") => `(tactic| first | exact wfs_l _ _ _ | exact wfs_r _ _ _ | exact wfs_y _ _ _)
theorem YardAt.two {P : Program} {w : World} {K : PySem.W.Frag} {H H' : Hp} {F : Foot} {G : List Pr} {hs : List Int} {ts : List (Key × V)} (Y : YardAt P w K H F G hs ts) {l r : Addr} {xs ys : List V} (hl : H l = some (.lst xs)) (hr : H r = some (.lst ys)) (fl : Off F l) (fr : Off F r) (lr : l ≠ r) (l' : ∃ zs, H' l = some (.lst zs)) (k : ∀ c o, H c = some o → c ≠ l → c ≠ r → H' c = some o) : YardAt P w K H' F G hs ts := by
  obtain ⟨zs, hz⟩ := l'
  have Y1 : YardAt P w K (upd H l (.lst zs)) F G hs ts := Y.but hl fl fun c o z n => (upd_ne n).trans z
  refine Y1.but (p := r) (ys := ys) ((upd_ne lr.symm).trans hr) fr fun c o z n => ?_
  by_cases h : c = l
  · rw [h] at z ⊢
    rw [upd_same] at z
    rw [hz]; exact z
  · rw [upd_ne h] at z
    exact k c o z h n
/-- who does not win, of some games -/
def notV (tab : List Bool) : V → Option V
  | .int o => some (.bl (!(tab.getD o.toNat false)))
  | _ => none
theorem notV_list (tab : List Bool) (opts : List Int) : (opts.map V.int).filterMap (notV tab) = (opts.map fun o => !(tab.getD o.toNat false)).map V.bl := by
  rw [List.filterMap_map, List.map_map, ← List.filterMap_eq_map]
  rfl
theorem any_map (tab : List Bool) (opts : List Int) : (opts.map fun o => !(tab.getD o.toNat false)).any id = anyNot tab opts := by
  unfold anyNot
  rw [List.any_map]
  rfl
theorem tab_at {tab : List Bool} {o : Int} {n : Nat} (l : tab.length = n) (h : 0 ≤ o ∧ o < (n : Int)) : atI (tab.map V.bl) o = some (.bl (tab.getD o.toNat false)) := by
  obtain ⟨k, rfl⟩ : ∃ k : Nat, o = (k : Int) := ⟨o.toNat, by omega⟩
  refine atI_nat ?_
  rw [List.getElem?_map, List.getElem?_eq_getElem (by omega), Int.toNat_natCast, List.getD_eq_getElem?_getD, List.getElem?_eq_getElem (by omega)]
  rfl
abbrev N_Wins_m_catch_up : List Str := ["self", "first", "game", "lefts", "rights", "left_wins", "option", "right_wins"]
def t_Wins_m_catch_up (P : Program) (w : World) (K : PySem.W.Frag) (E : XK) : TS := (tSeq (tAsg (tCB (rLenQ K) (tCons (tFld K (tVar 0) "_left") tNil)) (gName 1)) (tFor (iRng2 (tCons (tVar 1) (tCons (tProp (He.ga K "Yard") (sp_Yard_m_size K) [] E0 (tFld K (tVar 0) "_yard")) tNil))) (gName 2) (tSeq (tAsg (tMeth (He.ga K "Yard") "lefts" (sp_Yard_m_lefts P w K) [] E0 (tFld K (tVar 0) "_yard") (tCons (tVar 2) tNil)) (gName 3)) (tSeq (tAsg (tMeth (He.ga K "Yard") "rights" (sp_Yard_m_rights P w K) [] E0 (tFld K (tVar 0) "_yard") (tCons (tVar 2) tNil)) (gName 4)) (tSeq (tAsg (tCB (rAny K) (tCons (tLc (iList K (tVar 3)) (gName 6) tYes (tNotV (tOp (rIxL K) (tFld K (tVar 0) "_right") (tVar 6))) [6]) tNil)) (gName 5)) (tSeq (tAsg (tCB (rAny K) (tCons (tLc (iList K (tVar 4)) (gName 6) tYes (tNotV (tOp (rIxL K) (tFld K (tVar 0) "_left") (tVar 6))) [6]) tNil)) (gName 7)) (tSeq (tDrop (tBM K "list" rAppend (tFld K (tVar 0) "_left") (tCons (tVar 5) tNil))) (tDrop (tBM K "list" rAppend (tFld K (tVar 0) "_right") (tCons (tVar 7) tNil))))))))))
theorem len_Wins_m_catch_up {P : Program} {w : World} {K : PySem.W.Frag} {vs : List V} {H : Hp} {Q : VK} {E : XK} (h : sp_Wins_m_catch_up P w K vs H Q E) : vs.length = 1 := by
  obtain ⟨_, _, _, _, _, _, _, _, _, rfl, _⟩ := h; rfl
theorem pure_Wins_m_catch_up {P : Program} {w : World} {K : PySem.W.Frag} (FW : FWins K) (vs : List V) (H : Hp) (Q : VK) (E : XK) (h : sp_Wins_m_catch_up P w K vs H Q E) : t_Wins_m_catch_up P w K E { nx := fun _ H' => Q .non H', rt := Q } (start N_Wins_m_catch_up vs) H := by
  obtain ⟨F, G, hs, ts, a, dx, l, r, n, rfl, Y, W, ng, few, ol, or_, q⟩ := h
  obtain ⟨cl, ny, nl, nr⟩ := FW
  obtain ⟨hi, hl, hr, lr⟩ := id W
  obtain ⟨tl1, tl2⟩ := wTab_len G n
  unfold t_Wins_m_catch_up
  repeat walk_at "mst"
  refine ⟨F.y, F.dx, yfs F, rfl, Y.ins, use_size Y ?_⟩
  repeat walk_at "mst"
  rw [show ((wTab G n).1.map V.bl).length = n by rw [List.length_map]; exact tl1]
  refine ⟨_, _, rfl, ⟨by omega, by omega, by omega, by omega⟩, ?_⟩
  rw [show ((G.length : Int) - (n : Int)).toNat = G.length - n by omega]
  refine for_range (lo := (n : Int)) (n := G.length - n) (fun i σ H' => ∃ (x2 x3 x4 x5 x6 x7 : Option V), (∀ c o, H c = some o → c ≠ l → c ≠ r → H' c = some o) ∧ YardAt P w K H' F G hs ts ∧ WnAt K H' a dx F.y l r G (n + i) ∧ σ = [some (.ref a), some (.int (n : Int)), x2, x3, x4, x5, x6, x7]) ⟨none, none, none, none, none, none, fun c o z _ _ => z, Y, W, rfl⟩ ?_ ?_
  · rintro i σ H1 hi ⟨x2, x3, x4, x5, x6, x7, kp, Y1, W1, rfl⟩
    obtain ⟨hi1, hl1, hr1, _⟩ := id W1
    obtain ⟨tl, tr⟩ := wTab_len G (n + i)
    have hg := List.getElem?_eq_getElem (l := G) (i := n + i) (by omega)
    generalize hgd : G[n + i]'(by omega) = g at *
    obtain ⟨a1, a2⟩ := Y1.G.asc (n + i) g hg
    have lg1 := a1.len
    have lg2 := a2.len
    rw [show (n : Int) + (i : Int) = ((n + i : Nat) : Int) by omega]
    repeat walk_at "mst"
    refine Y1.meth (by decide +kernel) (by decide +kernel) (by decide +kernel) (by decide +kernel) (by decide +kernel) ?_
    repeat walk_at "mst"
    refine use_lefts Y1 hg fun p1 H2 np1 e2 hp1 => ?_
    have Y2 := Y1.ex e2
    have W2 := W1.ex e2
    obtain ⟨hi2, hl2, hr2, _⟩ := id W2
    repeat walk_at "mst"
    refine Y2.meth (by decide +kernel) (by decide +kernel) (by decide +kernel) (by decide +kernel) (by decide +kernel) ?_
    repeat walk_at "mst"
    refine use_rights Y2 hg fun p2 H3 np2 e3 hp2 => ?_
    have Y3 := Y2.ex e3
    have W3 := W2.ex e3
    obtain ⟨hi3, hl3, hr3, _⟩ := id W3
    have hp13 := e3 _ _ hp1
    repeat walk_at "mst"
    refine ⟨p1, rfl, ⟨_, k_sq hp13⟩, lcR_list (notV (wTab G (n + i)).2) (k_sq hp13) (by rw [List.length_map]; exact fits' (by omega)) (fun x mx => ?_) fun L1 H4 nL1 e4 hL1 => ?_⟩
    · intro H'' e'' RR rr
      obtain ⟨o, mo, rfl⟩ := List.mem_map.mp mx
      have bo := a1.2 o mo
      have rr := rr _ (Evl.Ex.refl _)
      have hi'' := e'' _ _ hi3
      have hr'' := e'' _ _ hr3
      repeat walk_at "mst"
      refine ⟨rfl, ?_⟩
      unfold tYes
      repeat walk_at "mst"
      refine k_ixL (k_sq hr'') (tab_at tr bo) ?_
      repeat walk_at "mst"
      exact rr
    rw [notV_list] at hL1
    have Y4 := Y3.ex e4
    have W4 := W3.ex e4
    obtain ⟨hi4, hl4, hr4, _⟩ := id W4
    have hp24 := e4 _ _ hp2
    repeat walk_at "mst"
    refine ⟨L1, _, rfl, k_sq hL1, ?_⟩
    rw [any_map]
    repeat walk_at "mst"
    refine ⟨p2, rfl, ⟨_, k_sq hp24⟩, lcR_list (notV (wTab G (n + i)).1) (k_sq hp24) (by rw [List.length_map]; exact fits' (by omega)) (fun x mx => ?_) fun L2 H5 nL2 e5 hL2 => ?_⟩
    · intro H'' e'' RR rr
      obtain ⟨o, mo, rfl⟩ := List.mem_map.mp mx
      have bo := a2.2 o mo
      have rr := rr _ (Evl.Ex.refl _)
      have hi'' := e'' _ _ hi4
      have hl'' := e'' _ _ hl4
      repeat walk_at "mst"
      refine ⟨rfl, ?_⟩
      unfold tYes
      repeat walk_at "mst"
      refine k_ixL (k_sq hl'') (tab_at tl bo) ?_
      repeat walk_at "mst"
      exact rr
    rw [notV_list] at hL2
    have Y5 := Y4.ex e5
    have W5 := W4.ex e5
    obtain ⟨hi5, hl5, hr5, _⟩ := id W5
    repeat walk_at "mst"
    refine ⟨L2, _, rfl, k_sq hL2, ?_⟩
    rw [any_map]
    repeat walk_at "mst"
    · rw [List.length_map]; exact fits' (by omega)
    have nal : a ≠ l := fun h => by rw [h, hl5] at hi5; cases hi5
    have nar : a ≠ r := fun h => by rw [h, hr5] at hi5; cases hi5
    have hi6 : upd H5 l (HO.lst ((wTab G (n + i)).1.map V.bl ++ [V.bl (anyNot (wTab G (n + i)).2 g.1)])) a = _ := (upd_ne nal).trans hi5
    have hr6 : upd H5 l (HO.lst ((wTab G (n + i)).1.map V.bl ++ [V.bl (anyNot (wTab G (n + i)).2 g.1)])) r = _ := (upd_ne lr.symm).trans hr5
    have hl6 : upd H5 l (HO.lst ((wTab G (n + i)).1.map V.bl ++ [V.bl (anyNot (wTab G (n + i)).2 g.1)])) l = some (HO.lst ((wTab G (n + i)).1.map V.bl ++ [V.bl (anyNot (wTab G (n + i)).2 g.1)])) := upd_same
    have k6 : ∀ c o, H5 c = some o → c ≠ l → upd H5 l (HO.lst ((wTab G (n + i)).1.map V.bl ++ [V.bl (anyNot (wTab G (n + i)).2 g.1)])) c = some o := fun c o z n => (upd_ne n).trans z
    generalize upd H5 l (HO.lst ((wTab G (n + i)).1.map V.bl ++ [V.bl (anyNot (wTab G (n + i)).2 g.1)])) = H6 at *
    repeat walk_at "mst"
    · rw [List.length_map]; exact fits' (by omega)
    have k7 : ∀ c o, H5 c = some o → c ≠ l → c ≠ r → upd H6 r (HO.lst ((wTab G (n + i)).2.map V.bl ++ [V.bl (anyNot (wTab G (n + i)).1 g.2)])) c = some o := fun c o z n1 n2 => (upd_ne n2).trans (k6 c o z n1)
    have gd : G.getD (n + i) ([], []) = g := by rw [List.getD_eq_getElem?_getD, hg]; rfl
    have hl7 : upd H6 r (HO.lst ((wTab G (n + i)).2.map V.bl ++ [V.bl (anyNot (wTab G (n + i)).1 g.2)])) l = some (HO.lst ((wTab G (n + i + 1)).1.map V.bl)) := by
      rw [upd_ne lr, hl6]
      show _ = some (HO.lst (((wTab G (n + i)).1 ++ [anyNot (wTab G (n + i)).2 (G.getD (n + i) ([], [])).1]).map V.bl))
      rw [gd, List.map_append]; rfl
    have hr7 : upd H6 r (HO.lst ((wTab G (n + i)).2.map V.bl ++ [V.bl (anyNot (wTab G (n + i)).1 g.2)])) r = some (HO.lst ((wTab G (n + i + 1)).2.map V.bl)) := by
      rw [upd_same]
      show _ = some (HO.lst (((wTab G (n + i)).2 ++ [anyNot (wTab G (n + i)).1 (G.getD (n + i) ([], [])).2]).map V.bl))
      rw [gd, List.map_append]; rfl
    refine ⟨_, _, _, _, _, _, fun c o z n1 n2 => k7 _ _ (e5 _ _ (e4 _ _ (e3 _ _ (e2 _ _ (kp c o z n1 n2))))) n1 n2, Y5.two hl5 hr5 ol or_ lr ⟨_, hl7⟩ k7, ⟨(upd_ne nar).trans hi6, hl7, hr7, lr⟩, rfl⟩
  · rintro σ H1 ⟨x2, x3, x4, x5, x6, x7, kp, Y1, W1, rfl⟩
    rw [show n + (G.length - n) = G.length by omega] at W1
    exact q H1 kp Y1 W1
theorem use_catch {P : Program} {w : World} {K : PySem.W.Frag} {H : Hp} {Q : VK} {E : XK} {F : Foot} {G : List Pr} {hs : List Int} {ts : List (Key × V)} {a dx l r : Addr} {n : Nat} (Y : YardAt P w K H F G hs ts) (W : WnAt K H a dx F.y l r G n) (ng : n ≤ G.length) (few : G.length ≤ 1000) (ol : Off F l) (or_ : Off F r)
    (q : ∀ H', (∀ c o, H c = some o → c ≠ l → c ≠ r → H' c = some o) → YardAt P w K H' F G hs ts → WnAt K H' a dx F.y l r G G.length → Q .non H') : sp_Wins_m_catch_up P w K (.ref a :: ([] ++ [])) H Q E := ⟨F, G, hs, ts, a, dx, l, r, n, rfl, Y, W, ng, few, ol, or_, q⟩
theorem pfs_y (y wn l r kn : Addr) : (pfs y wn l r kn).lookup ("_yard" : Str) = some (.ref y) := by
  unfold pfs
  rw [lookup_putF, if_neg (by decide +kernel), lookup_putF, if_neg (by decide +kernel), lookup_putF, if_neg (by decide +kernel), lookup_putF, if_neg (by decide +kernel), lookup_putF, if_pos rfl]
theorem pfs_w (y wn l r kn : Addr) : (pfs y wn l r kn).lookup ("_wins" : Str) = some (.ref wn) := by
  unfold pfs
  rw [lookup_putF, if_neg (by decide +kernel), lookup_putF, if_neg (by decide +kernel), lookup_putF, if_neg (by decide +kernel), lookup_putF, if_pos rfl]
theorem pfs_l (y wn l r kn : Addr) : (pfs y wn l r kn).lookup ("_lefts" : Str) = some (.ref l) := by
  unfold pfs
  rw [lookup_putF, if_neg (by decide +kernel), lookup_putF, if_neg (by decide +kernel), lookup_putF, if_pos rfl]
theorem pfs_r (y wn l r kn : Addr) : (pfs y wn l r kn).lookup ("_rights" : Str) = some (.ref r) := by
  unfold pfs
  rw [lookup_putF, if_neg (by decide +kernel), lookup_putF, if_pos rfl]
theorem pfs_k (y wn l r kn : Addr) : (pfs y wn l r kn).lookup ("_known" : Str) = some (.ref kn) := by
  unfold pfs
  rw [lookup_putF, if_pos rfl]
theorem pfs_no (y wn l r kn : Addr) {m : Str} (h1 : ¬ m = "_known") (h2 : ¬ m = "_rights") (h3 : ¬ m = "_lefts") (h4 : ¬ m = "_wins") (h5 : ¬ m = "_yard") : (pfs y wn l r kn).lookup m = none := by
  unfold pfs
  rw [lookup_putF, if_neg h1, lookup_putF, if_neg h2, lookup_putF, if_neg h3, lookup_putF, if_neg h4, lookup_putF, if_neg h5]
  rfl
def sp_Pairs_m_catch_up (P : Program) (w : World) (K : PySem.W.Frag) : Sp := fun vs H Q _ => ∃ (F : Foot) (hs : List Int) (ts : List (Key × V)) (a dx wn dw wl wr l r kn : Addr), vs = [.ref a] ∧ YardAt P w K H F [([], [])] hs ts ∧ PrAt K H a dx F.y wn dw wl wr l r kn ∧ Off F wl ∧ Off F wr ∧ Off F l ∧ Off F r ∧ Off F kn ∧
  ∀ H', (∀ c o, H c = some o → c ≠ wl → c ≠ wr → c ≠ l → c ≠ r → c ≠ kn → H' c = some o) → Q .non H'
local macro_rules | `(tactic| walk_at "mlk") => `(tactic| first | exact pfs_y _ _ _ _ _ | exact pfs_w _ _ _ _ _ | exact pfs_l _ _ _ _ _ | exact pfs_r _ _ _ _ _ | exact pfs_k _ _ _ _ _)
local macro_rules | `(tactic| walk_at "new") => `(tactic| ((first | refine ⟨fits (Nat.le_of_ble_eq_true rfl), ?_⟩ | skip); intro p np; generalize hq : upd _ p _ = H1; have e1 := nx np hq; have s1 := nS hq; clear hq))
abbrev N_Pairs_m_catch_up : List Str := ["self", "first", "game"]
def t_Pairs_m_catch_up (P : Program) (w : World) (K : PySem.W.Frag) (E : XK) : TS := (tSeq (tDrop (tMeth (He.ga K "Wins") "catch_up" (sp_Wins_m_catch_up P w K) [] E0 (tFld K (tVar 0) "_wins") tNil)) (tSeq (tAsg (tCB (rLenQ K) (tCons (tFld K (tVar 0) "_lefts") tNil)) (gName 1)) (tFor (iRng2 (tCons (tVar 1) (tCons (tProp (He.ga K "Yard") (sp_Yard_m_size K) [] E0 (tFld K (tVar 0) "_yard")) tNil))) (gName 2) (tSeq (tDrop (tBM K "list" rAppend (tFld K (tVar 0) "_lefts") (tCons (tMeth (He.ga K "Yard") "lefts" (sp_Yard_m_lefts P w K) [] E0 (tFld K (tVar 0) "_yard") (tCons (tVar 2) tNil)) tNil))) (tSeq (tDrop (tBM K "list" rAppend (tFld K (tVar 0) "_rights") (tCons (tMeth (He.ga K "Yard") "rights" (sp_Yard_m_rights P w K) [] E0 (tFld K (tVar 0) "_yard") (tCons (tVar 2) tNil)) tNil))) (tDrop (tBM K "list" rAppend (tFld K (tVar 0) "_known") (tCons tDNewK tNil))))))))
theorem len_Pairs_m_catch_up {P : Program} {w : World} {K : PySem.W.Frag} {vs : List V} {H : Hp} {Q : VK} {E : XK} (h : sp_Pairs_m_catch_up P w K vs H Q E) : vs.length = 1 := by
  obtain ⟨_, _, _, _, _, _, _, _, _, _, _, _, rfl, _⟩ := h; rfl
theorem pure_Pairs_m_catch_up {P : Program} {w : World} {K : PySem.W.Frag} (F0 : FPairs K) (vs : List V) (H : Hp) (Q : VK) (E : XK) (h : sp_Pairs_m_catch_up P w K vs H Q E) : t_Pairs_m_catch_up P w K E { nx := fun _ H' => Q .non H', rt := Q } (start N_Pairs_m_catch_up vs) H := by
  obtain ⟨F, hs, ts, a, dx, wn, dw, wl, wr, l, r, kn, rfl, Y, A, o1, o2, o3, o4, o5, q⟩ := h
  obtain ⟨cl, n1, n2, n3, n4, n5⟩ := F0
  obtain ⟨hi, W, hl, hr, hk, ⟨lr, lk, rk⟩, ⟨wl1, wl2, wl3⟩, ⟨wr1, wr2, wr3⟩⟩ := A
  have W0 := W [([], [])]
  have nal : ∀ {c : Addr} {xs : List V}, H c = some (.lst xs) → a ≠ c := fun z h => by rw [h, z] at hi; cases hi
  unfold t_Pairs_m_catch_up
  repeat walk_at "mst"
  refine ⟨wn, dw, _, rfl, W0.ins, wfs_no _ _ _ (by decide +kernel) (by decide +kernel) (by decide +kernel), ?_⟩
  repeat walk_at "mst"
  refine use_catch Y W0 (Nat.zero_le _) (by decide) o1 o2 fun H1 k1 Y1 W1 => ?_
  have hi1 := k1 _ _ hi (nal W0.hl) (nal W0.hr)
  have hl1 := k1 _ _ hl wl1.symm wr1.symm
  have hr1 := k1 _ _ hr wl2.symm wr2.symm
  have hk1 := k1 _ _ hk wl3.symm wr3.symm
  repeat walk_at "mst"
  refine ⟨F.y, F.dx, yfs F, rfl, Y1.ins, use_size Y1 ?_⟩
  repeat walk_at "mst"
  refine ⟨_, _, rfl, ⟨by decide, by decide, by decide, by decide⟩, ?_⟩
  refine for_range (lo := ((List.length ([] : List V) : Nat) : Int)) (n := 1) (fun i σ H' => ∃ (x2 : Option V), (i = 0 → H' = H1) ∧ (∀ c o, H1 c = some o → c ≠ l → c ≠ r → c ≠ kn → H' c = some o) ∧ σ = [some (.ref a), some (.int 0), x2]) ⟨none, fun _ => rfl, fun c o z _ _ _ => z, rfl⟩ ?_ ?_
  · rintro i σ H2 hi2 ⟨x2, z0, kp, rfl⟩
    have ei : i = 0 := by omega
    subst ei
    have := z0 rfl
    subst this
    have g0 : ([([], [])] : List Pr)[0]? = some ([], []) := rfl
    repeat walk_at "mst"
    refine Y1.meth (m := "lefts") (by decide +kernel) (by decide +kernel) (by decide +kernel) (by decide +kernel) (by decide +kernel) ?_
    repeat walk_at "mst"
    refine use_lefts (k := 0) Y1 g0 fun p1 H3 np1 e3 hp1 => ?_
    have Y3 := Y1.ex e3
    have hi3 := e3 _ _ hi1
    have hl3 := e3 _ _ hl1
    have hr3 := e3 _ _ hr1
    have hk3 := e3 _ _ hk1
    repeat walk_at "mst"
    · exact fits' (show 0 ≤ 3000 by decide)
    have Y4 : YardAt P w K (upd H3 l (HO.lst ([] ++ [V.ref p1]))) F [([], [])] hs ts := Y3.but hl3 o3 fun c o z n => (upd_ne n).trans z
    have hi4 : upd H3 l (HO.lst ([] ++ [V.ref p1])) a = _ := (upd_ne (nal hl)).trans hi3
    have hr4 : upd H3 l (HO.lst ([] ++ [V.ref p1])) r = _ := (upd_ne lr.symm).trans hr3
    have hk4 : upd H3 l (HO.lst ([] ++ [V.ref p1])) kn = _ := (upd_ne lk.symm).trans hk3
    have k4 : ∀ c o, H2 c = some o → c ≠ l → upd H3 l (HO.lst ([] ++ [V.ref p1])) c = some o := fun c o z n => (upd_ne n).trans (e3 _ _ z)
    generalize upd H3 l (HO.lst ([] ++ [V.ref p1])) = H4 at *
    repeat walk_at "mst"
    refine Y4.meth (m := "rights") (by decide +kernel) (by decide +kernel) (by decide +kernel) (by decide +kernel) (by decide +kernel) ?_
    repeat walk_at "mst"
    refine use_rights (k := 0) Y4 g0 fun p2 H5 np2 e5 hp2 => ?_
    have hi5 := e5 _ _ hi4
    have hr5 := e5 _ _ hr4
    have hk5 := e5 _ _ hk4
    repeat walk_at "mst"
    · exact fits' (show 0 ≤ 3000 by decide)
    have hi6 : upd H5 r (HO.lst ([] ++ [V.ref p2])) a = _ := (upd_ne (nal hr)).trans hi5
    have hk6 : upd H5 r (HO.lst ([] ++ [V.ref p2])) kn = _ := (upd_ne rk.symm).trans hk5
    have k6 : ∀ c o, H2 c = some o → c ≠ l → c ≠ r → upd H5 r (HO.lst ([] ++ [V.ref p2])) c = some o := fun c o z n1 n2 => (upd_ne n2).trans (e5 _ _ (k4 c o z n1))
    generalize upd H5 r (HO.lst ([] ++ [V.ref p2])) = H6 at *
    repeat walk_at "mst"
    first | refine k_dnew ?_ | skip
    intro d nd
    have e7 := Evl.Ex.new (o := HO.dK []) nd
    have hk7 := e7 _ _ hk6
    repeat walk_at "mst"
    · exact fits' (show 0 ≤ 3000 by decide)
    exact ⟨_, fun h => absurd h (by decide), fun c o z n1 n2 n3 => (upd_ne n3).trans (e7 _ _ (k6 c o z n1 n2)), rfl⟩
  · rintro σ H2 ⟨x2, z0, kp, rfl⟩
    exact q H2 fun c o z n1 n2 n3 n4 n5 => kp c o (k1 c o z n1 n2) n3 n4 n5
theorem use_pcatch {P : Program} {w : World} {K : PySem.W.Frag} {H : Hp} {Q : VK} {E : XK} {F : Foot} {hs : List Int} {ts : List (Key × V)} {a dx wn dw wl wr l r kn : Addr} (Y : YardAt P w K H F [([], [])] hs ts) (A : PrAt K H a dx F.y wn dw wl wr l r kn) (o1 : Off F wl) (o2 : Off F wr) (o3 : Off F l) (o4 : Off F r) (o5 : Off F kn)
    (q : ∀ H', (∀ c o, H c = some o → c ≠ wl → c ≠ wr → c ≠ l → c ≠ r → c ≠ kn → H' c = some o) → Q .non H') : sp_Pairs_m_catch_up P w K (.ref a :: ([] ++ [])) H Q E := ⟨F, hs, ts, a, dx, wn, dw, wl, wr, l, r, kn, rfl, Y, A, o1, o2, o3, o4, o5, q⟩
def sp_Ranks_d_init (K : PySem.W.Frag) : Sp := fun vs H Q _ => ∃ (p dx : Addr) (x : V), vs = [.ref p, x] ∧ H p = some (.ins (He.ga K "Ranks") dx []) ∧ ∀ H', Mk1 p H H' → Q .non H'
local macro_rules | `(tactic| walk_at "new") => `(tactic| ((first | refine ⟨fits (Nat.le_of_ble_eq_true rfl), ?_⟩ | skip); intro p np; generalize hq : upd _ p _ = H1; have e1 := nx np hq; have s1 := nS hq; clear hq))
/-- {"left": {}, "right": {}} -/
theorem two_dicts {σ : L2.St} {H : Hp} {Q : VK} (q : ∀ d H', H d = none → Ex H H' → Q (.ref d) H') : tDisp [((tC (.str "left")), tDNewK), ((tC (.str "right")), tDNewK)] σ H Q := by
  intro d nd
  have e0 := Evl.Ex.new (o := HO.dK []) nd
  have s0 : upd H d (HO.dK []) d = some (HO.dK []) := upd_same
  generalize upd H d (HO.dK []) = H1 at *
  show tPairs _ _ _ _
  unfold tPairs
  refine k_c ?_
  refine k_dnew fun a na => ?_
  have e1 := Evl.Ex.new (o := HO.dK []) na
  generalize upd H1 a (HO.dK []) = H2 at *
  show tPairs _ _ _ _
  unfold tPairs
  refine k_c ?_
  refine k_dnew fun b nb => ?_
  have e2 := Evl.Ex.new (o := HO.dK []) nb
  generalize upd H2 b (HO.dK []) = H3 at *
  show tPairs _ _ _ _
  unfold tPairs
  exact ⟨e2 _ _ (e1 _ _ s0), [(Sum.inr "left", .ref a), (Sum.inr "right", .ref b)], rfl, by show 2 ≤ 15; decide, q d _ nd (Evl.Ex.mut ((e0.trans e1).trans e2) nd)⟩
abbrev N_Ranks_d_init : List Str := ["self", "pairs"]
def t_Ranks_d_init (K : PySem.W.Frag) (E : XK) : TS := (tSeq (sFld K (tVar 0) (tVar 1) "_pairs") (tSeq (sFld K (tVar 0) tDNewK "_bits") (tSeq (sFld K (tVar 0) (tLst tNil) "_forms") (tSeq (sFld K (tVar 0) (tDisp [((tC (.str "left")), tDNewK), ((tC (.str "right")), tDNewK)]) "_better") (sFld K (tVar 0) (tDisp [((tC (.str "left")), tDNewK), ((tC (.str "right")), tDNewK)]) "_asked")))))
theorem len_Ranks_d_init {K : PySem.W.Frag} {vs : List V} {H : Hp} {Q : VK} {E : XK} (h : sp_Ranks_d_init K vs H Q E) : vs.length = 2 := by
  obtain ⟨_, _, _, rfl, _⟩ := h; rfl
theorem pure_Ranks_d_init {K : PySem.W.Frag} (F : FRanks K) (vs : List V) (H : Hp) (Q : VK) (E : XK) (h : sp_Ranks_d_init K vs H Q E) : t_Ranks_d_init K E { nx := fun _ H' => Q .non H', rt := Q } (start N_Ranks_d_init vs) H := by
  obtain ⟨p, dx, x, rfl, hp, q⟩ := h
  obtain ⟨cl, n1, n2, n3, n4, n5⟩ := F
  unfold t_Ranks_d_init
  have m0 := Mk1.refl p H
  repeat walk_at "mst"
  refine ⟨p, _, dx, [], rfl, hp, cl, n1, by show 0 < 1000; decide, ?_⟩
  have m1 := m0.set (o := HO.ins (He.ga K "Ranks") dx (putF "_pairs" x [])) ⟨_, hp⟩
  have p1 : upd H p (HO.ins (He.ga K "Ranks") dx (putF "_pairs" x [])) p = some _ := upd_same
  generalize upd H p (HO.ins (He.ga K "Ranks") dx (putF "_pairs" x [])) = H1 at *
  repeat walk_at "mst"
  first | refine k_dnew ?_ | skip
  walk_at "new"; rename_i d nd H2 e2 s2
  have m2 := m1.ex e2
  repeat walk_at "mst"
  refine ⟨p, _, dx, _, rfl, e2 _ _ p1, cl, n2, by show 1 < 1000; decide, ?_⟩
  have m3 := m2.set (o := HO.ins (He.ga K "Ranks") dx (putF "_bits" (.ref d) (putF "_pairs" x []))) ⟨_, hp⟩
  have p3 : upd H2 p (HO.ins (He.ga K "Ranks") dx (putF "_bits" (.ref d) (putF "_pairs" x []))) p = some _ := upd_same
  generalize upd H2 p (HO.ins (He.ga K "Ranks") dx (putF "_bits" (.ref d) (putF "_pairs" x []))) = H3 at *
  repeat walk_at "mst"
  walk_at "new"; rename_i l nl_ H4 e4 s4
  have m4 := m3.ex e4
  repeat walk_at "mst"
  refine ⟨p, _, dx, _, rfl, e4 _ _ p3, cl, n3, by show 2 < 1000; decide, ?_⟩
  have m5 := m4.set (o := HO.ins (He.ga K "Ranks") dx (putF "_forms" (.ref l) (putF "_bits" (.ref d) (putF "_pairs" x [])))) ⟨_, hp⟩
  have p5 : upd H4 p (HO.ins (He.ga K "Ranks") dx (putF "_forms" (.ref l) (putF "_bits" (.ref d) (putF "_pairs" x [])))) p = some _ := upd_same
  generalize upd H4 p (HO.ins (He.ga K "Ranks") dx (putF "_forms" (.ref l) (putF "_bits" (.ref d) (putF "_pairs" x [])))) = H5 at *
  repeat walk_at "mst"
  refine two_dicts fun b H6 nb e6 => ?_
  have m6 := m5.ex e6
  repeat walk_at "mst"
  refine ⟨p, _, dx, _, rfl, e6 _ _ p5, cl, n4, by show 3 < 1000; decide, ?_⟩
  have m7 := m6.set (o := HO.ins (He.ga K "Ranks") dx (putF "_better" (.ref b) (putF "_forms" (.ref l) (putF "_bits" (.ref d) (putF "_pairs" x []))))) ⟨_, hp⟩
  have p7 : upd H6 p (HO.ins (He.ga K "Ranks") dx (putF "_better" (.ref b) (putF "_forms" (.ref l) (putF "_bits" (.ref d) (putF "_pairs" x []))))) p = some _ := upd_same
  generalize upd H6 p (HO.ins (He.ga K "Ranks") dx (putF "_better" (.ref b) (putF "_forms" (.ref l) (putF "_bits" (.ref d) (putF "_pairs" x []))))) = H7 at *
  repeat walk_at "mst"
  refine two_dicts fun c H8 nc e8 => ?_
  have m8 := m7.ex e8
  repeat walk_at "mst"
  refine ⟨p, _, dx, _, rfl, e8 _ _ p7, cl, n5, by show 4 < 1000; decide, ?_⟩
  exact q _ (m8.set ⟨_, hp⟩)
theorem mk_ranks {K : PySem.W.Frag} {H : Hp} {Q : Addr → Hp → Prop} {E : XK} {y : V} (k : ∀ x H', H x = none → Ex H H' → Q x H') :
    ∀ x dx, H x = none → H dx = none → dx ≠ x → sp_Ranks_d_init K (.ref x :: ([y] ++ [])) (upd (upd H dx (.own x)) x (.ins (He.ga K "Ranks") dx [])) (fun v H2 => v = .non ∧ Q x H2) E := by
  intro x dx hx hd hne
  have e : Ex H (upd (upd H dx (.own x)) x (.ins (He.ga K "Ranks") dx [])) := (Evl.Ex.new hd).trans (Evl.Ex.new (by rw [upd_ne hne.symm]; exact hx))
  exact ⟨x, dx, y, rfl, upd_same, fun H' m => ⟨rfl, k x H' hx fun c o z => m.kp c o (e _ _ z) (ne_of_none z hx)⟩⟩
/-- a thing of a known kind: whether it is an int within bounds -/
def wholeV (x : V) (lo hi : Int) : Bool := match x with
  | .int i => decide (lo ≤ i) && decide (i ≤ hi)
  | _ => false
def sp_is_whole (K : PySem.W.Frag) : Sp := spR (fun vs H => ∃ (x : V) (T : String) (lo hi : Int), vs = [x, .int lo, .int hi] ∧ TyB K H x T)
  (fun vs H v H' => ∃ (x : V) (lo hi : Int), vs = [x, .int lo, .int hi] ∧ v = .bl (wholeV x lo hi) ∧ H' = H)
abbrev N_is_whole : List Str := ["thing", "least", "most"]
def t_is_whole (K : PySem.W.Frag) (E : XK) : TS := (tRet (tAndV (tOp rIsTy (tCB (rTyp K) (tCons (tVar 0) tNil)) (tC (.ty "int"))) (tChain rLeI rLeI (tVar 1) (tVar 0) (tVar 2))))
theorem len_is_whole {K : PySem.W.Frag} {vs : List V} {H : Hp} {Q : VK} {E : XK} (h : sp_is_whole K vs H Q E) : vs.length = 3 := by
  obtain ⟨⟨_, _, _, _, rfl, _⟩, _⟩ := h; rfl
theorem whole_ty {K : PySem.W.Frag} {H : Hp} {x : V} {T : String} (t : TyB K H x T) : (T = "int" ∧ ∃ i, x = .int i) ∨ (T ≠ "int" ∧ ∀ lo hi, wholeV x lo hi = false) := by
  cases t
  case int i => exact Or.inl ⟨rfl, i, rfl⟩
  all_goals exact Or.inr ⟨by decide, fun _ _ => rfl⟩
theorem pure_is_whole {K : PySem.W.Frag} (vs : List V) (H : Hp) (Q : VK) (E : XK) (h : sp_is_whole K vs H Q E) : t_is_whole K E { nx := fun _ H' => Q .non H', rt := Q } (start N_is_whole vs) H := by
  obtain ⟨⟨x, T, lo, hi, rfl, ht⟩, q⟩ := h
  unfold t_is_whole
  repeat walk_at "mst"
  refine ⟨x, T, rfl, ht, ?_⟩
  repeat walk_at "mst"
  rcases whole_ty ht with ⟨e, i, rfl⟩ | ⟨e, hf⟩
  · refine k_iteD (fun _ => ?_) (fun hn => absurd e hn)
    repeat walk_at "mst"
    refine k_iteD (fun h1 => ?_) (fun h1 => ?_)
    · repeat walk_at "mst"
      refine q _ _ ⟨_, lo, hi, rfl, ?_, rfl⟩
      show V.bl (decide (i ≤ hi)) = V.bl (decide (lo ≤ i) && decide (i ≤ hi))
      rw [decide_eq_true h1, Bool.true_and]
    · refine q _ _ ⟨_, lo, hi, rfl, ?_, rfl⟩
      show V.bl false = V.bl (decide (lo ≤ i) && decide (i ≤ hi))
      rw [decide_eq_false h1, Bool.false_and]
  · refine k_iteD (fun hy => absurd hy e) (fun _ => ?_)
    exact q _ _ ⟨x, lo, hi, rfl, by rw [hf], rfl⟩
def sp_plain (K : PySem.W.Frag) : Sp := spR (fun vs H => ∃ (a b : Int), vs = [.int a, .int b] ∧ 0 ≤ b)
  (fun vs H v H' => ∃ (a b : Int) (p : Addr), vs = [.int a, .int b] ∧ v = .ref p ∧ H p = none ∧ H' = upd H p (.tup [.int (plainZ a b.toNat).1, .int (plainZ a b.toNat).2]))
abbrev N_plain : List Str := ["top", "power"]
def t_plain (K : PySem.W.Frag) (E : XK) : TS := (tSeq (tWhile (tAnd (tTest (tOp rGtI (tVar 1) (tC (.int 0)))) (tTest (tOp rEq (tOp rAndI (tVar 0) (tC (.int 1))) (tC (.int 0))))) (tSeq (tAsg (tOp rShrI (tVar 0) (tC (.int 1))) (gName 0)) (tAsg (tOp rSubI (tVar 1) (tC (.int 1))) (gName 1)))) (tRet (tTup (tCons (tVar 0) (tCons (tVar 1) tNil)))))
theorem len_plain {K : PySem.W.Frag} {vs : List V} {H : Hp} {Q : VK} {E : XK} (h : sp_plain K vs H Q E) : vs.length = 2 := by
  obtain ⟨⟨_, _, rfl, _⟩, _⟩ := h; rfl
theorem pure_plain {K : PySem.W.Frag} (vs : List V) (H : Hp) (Q : VK) (E : XK) (h : sp_plain K vs H Q E) : t_plain K E { nx := fun _ H' => Q .non H', rt := Q } (start N_plain vs) H := by
  obtain ⟨⟨a, b, rfl, h0⟩, q⟩ := h
  unfold t_plain
  repeat walk_at "mst"
  refine k_while (fun m σ H' => H' = H ∧ ∃ (x y : Int), σ = [some (.int x), some (.int y)] ∧ y.toNat = m ∧ 0 ≤ y ∧ plainZ x y.toNat = plainZ a b.toNat) b.toNat ⟨rfl, a, b, rfl, rfl, h0, rfl⟩ ?_
  rintro m σ H' ⟨rfl, x, y, rfl, hm, hy, e⟩
  repeat walk_at "mst"
  refine k_iteD (fun hc => ?_) (fun hc => ?_)
  · repeat walk_at "mst"
    have s1 : (y - 1).toNat + 1 = y.toNat := by omega
    refine k_iteD (fun hd => ?_) (fun hd => ?_)
    · repeat walk_at "mst"
      refine ⟨fun σ2 H2 => ∃ m', m' < m ∧ (H2 = H' ∧ ∃ (x y : Int), σ2 = [some (.int x), some (.int y)] ∧ y.toNat = m' ∧ 0 ≤ y ∧ plainZ x y.toNat = plainZ a b.toNat), fun _ _ z => z, ?_⟩
      repeat walk_at "mst"
      rw [bitAnd_one] at hd
      refine ⟨(y - 1).toNat, by omega, rfl, x / 2, y - 1, rfl, rfl, by omega, ?_⟩
      rw [← e, ← s1, plainZ_even hd]
    · repeat walk_at "mst"
      rw [bitAnd_one] at hd
      refine ⟨two_le _ _, fun p hp => q _ _ ⟨a, b, p, rfl, rfl, hp, ?_⟩⟩
      have e2 : plainZ x y.toNat = (x, y) := by
        rw [← s1, plainZ_odd hd]
        congr 1; omega
      rw [← e, e2]
  · repeat walk_at "mst"
    refine ⟨two_le _ _, fun p hp => q _ _ ⟨a, b, p, rfl, rfl, hp, ?_⟩⟩
    have s1 : y.toNat = 0 := by omega
    have e2 : plainZ x y.toNat = (x, y) := by
      rw [s1, plainZ_zero]
      congr 1; omega
    rw [← e, e2]
def sp_Dyadic_d_init (K : PySem.W.Frag) : Sp := spX (fun vs H => ∃ (p dx : Addr) (x y : V) (T U : String), vs = [.ref p, x, y] ∧ H p = some (.ins (He.ga K "Dyadic") dx []) ∧ TyB K H x T ∧ TyB K H y U)
  (fun vs H v H' => ∃ (p dx : Addr) (a b : Int), vs = [.ref p, .int a, .int b] ∧ okTop a b ∧ v = .non ∧ (∀ c o, H c = some o → c ≠ p → H' c = some o) ∧ ∀ dx, H p = some (.ins (He.ga K "Dyadic") dx []) → H' p = some (.ins (He.ga K "Dyadic") dx (dfs (plainZ a b.toNat).1 (plainZ a b.toNat).2)))
  (fun vs H c d H' => ∃ (p : V) (x y : V), vs = [p, x, y] ∧ (¬ ∃ a b, x = .int a ∧ y = .int b ∧ okTop a b) ∧ c = .ref (He.ga K "BadValue") ∧ d = none ∧ H' = H)
abbrev N_Dyadic_d_init : List Str := ["self", "top", "power"]
def t_Dyadic_d_init (K : PySem.W.Frag) (E : XK) : TS := (tSeq (tIfS (tNot (tB (tCall (sp_is_whole K) [] E0 (tCons (tVar 1) (tCons (tUn rNegI (tC (.int 1000000000000))) (tCons (tC (.int 1000000000000)) tNil)))))) (tRaise E (.ref (He.ga K "BadValue"))) tNext) (tSeq (tIfS (tNot (tB (tCall (sp_is_whole K) [] E0 (tCons (tVar 2) (tCons (tC (.int 0)) (tCons (tC (.int 40)) tNil)))))) (tRaise E (.ref (He.ga K "BadValue"))) tNext) (tAsg (tCall (sp_plain K) [] E0 (tCons (tVar 1) (tCons (tVar 2) tNil))) (gTup K 2 (gCons (gFld K (tVar 0) "_top") (gCons (gFld K (tVar 0) "_power") gNil))))))
theorem len_Dyadic_d_init {K : PySem.W.Frag} {vs : List V} {H : Hp} {Q : VK} {E : XK} (h : sp_Dyadic_d_init K vs H Q E) : vs.length = 3 := by
  obtain ⟨⟨_, _, _, _, _, _, rfl, _⟩, _⟩ := h; rfl
theorem whole_int {x : V} {lo hi : Int} (h : wholeV x lo hi = true) : ∃ i, x = .int i ∧ lo ≤ i ∧ i ≤ hi := by
  cases x
  case int i =>
    have h' : (decide (lo ≤ i) && decide (i ≤ hi)) = true := h
    rw [Bool.and_eq_true, decide_eq_true_eq, decide_eq_true_eq] at h'
    exact ⟨i, rfl, h'.1, h'.2⟩
  all_goals cases h
theorem whole_no {i lo hi : Int} (h : wholeV (.int i) lo hi = false) : ¬ (lo ≤ i ∧ i ≤ hi) := by
  have h' : (decide (lo ≤ i) && decide (i ≤ hi)) = false := h
  rw [Bool.and_eq_false_iff, decide_eq_false_iff_not, decide_eq_false_iff_not] at h'
  rintro ⟨h1, h2⟩
  rcases h' with h' | h'
  · exact h' h1
  · exact h' h2
theorem pure_Dyadic_d_init {K : PySem.W.Frag} (F : FDyadic K) (vs : List V) (H : Hp) (Q : VK) (E : XK) (h : sp_Dyadic_d_init K vs H Q E) : t_Dyadic_d_init K E { nx := fun _ H' => Q .non H', rt := Q } (start N_Dyadic_d_init vs) H := by
  obtain ⟨⟨p, dx, x, y, T, U, rfl, hp, tx, ty⟩, q, r⟩ := h
  unfold t_Dyadic_d_init
  repeat walk_at "mst"
  refine ⟨⟨x, T, _, _, rfl, tx⟩, ?_⟩
  rintro v H1 ⟨x', lo, hi, e, rfl, rfl⟩
  cases e
  repeat walk_at "mst"
  cases hx : wholeV x (-1000000000000) 1000000000000
  · repeat walk_at "mst"
    refine r _ _ _ ⟨_, x, y, rfl, ?_, rfl, rfl, rfl⟩
    rintro ⟨a, b, rfl, rfl, ok⟩
    exact whole_no hx ok.1
  · repeat walk_at "mst"
    refine ⟨⟨y, U, _, _, rfl, ty⟩, ?_⟩
    rintro v H1 ⟨x', lo, hi, e, rfl, rfl⟩
    cases e
    repeat walk_at "mst"
    cases hy : wholeV y 0 40
    · repeat walk_at "mst"
      refine r _ _ _ ⟨_, x, y, rfl, ?_, rfl, rfl, rfl⟩
      rintro ⟨a, b, rfl, rfl, ok⟩
      exact whole_no hy ok.2
    · repeat walk_at "mst"
      obtain ⟨a, rfl, a1, a2⟩ := whole_int hx
      obtain ⟨b, rfl, b1, b2⟩ := whole_int hy
      refine ⟨⟨a, b, rfl, b1⟩, ?_⟩
      rintro v H2 ⟨a', b', t, e, rfl, ht, rfl⟩
      cases e
      have npt : p ≠ t := ne_of_none hp ht
      refine k_gtup (k_st upd_same) rfl ?_
      repeat walk_at "mst"
      refine k_gfld rfl (by rw [upd_ne npt]; exact hp) F.cl F.nt (by show 0 < 1000; decide) ?_
      repeat walk_at "mst"
      refine k_gfld rfl upd_same F.cl F.np (by show 1 < 1000; decide) ?_
      repeat walk_at "mst"
      refine q _ _ ⟨p, dx, a, b, rfl, ⟨⟨a1, a2⟩, b1, b2⟩, rfl, ?_, ?_⟩
      · intro c o hc hne
        rw [upd_ne hne, upd_ne hne, upd_ne (ne_of_none hc ht)]
        exact hc
      · intro dx' h'
        have e : HO.ins (He.ga K "Dyadic") dx [] = HO.ins (He.ga K "Dyadic") dx' [] := Option.some.inj (hp.symm.trans h')
        injection e with _ e _
        subst e
        exact upd_same
/-- a Dyadic is made -/
theorem mk_dy {K : PySem.W.Frag} {H : Hp} {Q : Addr → Hp → Prop} {E : XK} {a b : Int} (ok : okTop a b) (k : ∀ x H', H x = none → Ex H H' → DyAt K H' x (plainZ a b.toNat).1 (plainZ a b.toNat).2 → Q x H') :
    ∀ x dx, H x = none → H dx = none → dx ≠ x → sp_Dyadic_d_init K (.ref x :: ([.int a, .int b] ++ [])) (upd (upd H dx (.own x)) x (.ins (He.ga K "Dyadic") dx [])) (fun v H2 => v = .non ∧ Q x H2) E := by
  intro x dx hx hd hne
  refine ⟨⟨x, dx, _, _, _, _, rfl, upd_same, .int a, .int b⟩, ?_, ?_⟩
  · rintro v H' ⟨p, dx', a', b', e, _, rfl, fr, me⟩
    cases e
    refine ⟨rfl, k x H' hx (fun c o hc => ?_) ⟨dx, me dx upd_same⟩⟩
    have h1 : c ≠ x := ne_of_none hc hx
    refine fr c o ?_ h1
    rw [upd_ne h1, upd_ne (ne_of_none hc hd)]
    exact hc
  · rintro c d H' ⟨p, x', y', e, no, _⟩
    cases e
    exact absurd ⟨a, b, rfl, rfl, ok⟩ no
theorem mk_dy1 {K : PySem.W.Frag} {H : Hp} {Q : Addr → Hp → Prop} {E : XK} {a : Int} (ok : -1000000000000 ≤ a ∧ a ≤ 1000000000000) (k : ∀ x H', H x = none → Ex H H' → DyAt K H' x a 0 → Q x H') :
    ∀ x dx, H x = none → H dx = none → dx ≠ x → sp_Dyadic_d_init K (.ref x :: ([.int a] ++ [.int 0])) (upd (upd H dx (.own x)) x (.ins (He.ga K "Dyadic") dx [])) (fun v H2 => v = .non ∧ Q x H2) E :=
  mk_dy (a := a) (b := 0) ⟨ok, by decide, by decide⟩ k
def sp_Dyads_d_init (K : PySem.W.Frag) : Sp := fun vs H Q _ => ∃ (p dx : Addr) (x : V), vs = [.ref p, x] ∧ H p = some (.ins (He.ga K "Dyads") dx []) ∧ ∀ H', Mk1 p H H' → Q .non H'
local macro_rules | `(tactic| walk_at "new") => `(tactic| ((first | refine ⟨fits (Nat.le_of_ble_eq_true rfl), ?_⟩ | skip); intro p np; generalize hq : upd _ p _ = H1; have e1 := nx np hq; have s1 := nS hq; clear hq))
abbrev N_Dyads_d_init : List Str := ["self", "yard"]
def t_Dyads_d_init (K : PySem.W.Frag) (E : XK) : TS := (tSeq (sFld K (tVar 0) (tVar 1) "_yard") (tSeq (sFld K (tVar 0) (tDisp [((tC (.int 0)), (tMake (He.ga K "Dyadic") (sp_Dyadic_d_init K) [.int 0] E0 (tCons (tC (.int 0)) tNil)))]) "_numbers") (sFld K (tVar 0) (tDispT (tTup (tCons (tC (.int 0)) (tCons (tC (.int 0)) tNil))) (tC (.int 0))) "_forms")))
theorem len_Dyads_d_init {K : PySem.W.Frag} {vs : List V} {H : Hp} {Q : VK} {E : XK} (h : sp_Dyads_d_init K vs H Q E) : vs.length = 2 := by
  obtain ⟨_, _, _, rfl, _⟩ := h; rfl
theorem pure_Dyads_d_init {K : PySem.W.Frag} (F : FDyads K) (vs : List V) (H : Hp) (Q : VK) (E : XK) (h : sp_Dyads_d_init K vs H Q E) : t_Dyads_d_init K E { nx := fun _ H' => Q .non H', rt := Q } (start N_Dyads_d_init vs) H := by
  obtain ⟨p, dx, x, rfl, hp, q⟩ := h
  obtain ⟨cl, n1, n2, n3⟩ := F
  unfold t_Dyads_d_init
  have m0 := Mk1.refl p H
  repeat walk_at "mst"
  refine ⟨p, _, dx, [], rfl, hp, cl, n1, by show 0 < 1000; decide, ?_⟩
  have m1 := m0.set (o := HO.ins (He.ga K "Dyads") dx (putF "_yard" x [])) ⟨_, hp⟩
  have p1 : upd H p (HO.ins (He.ga K "Dyads") dx (putF "_yard" x [])) p = some _ := upd_same
  generalize upd H p (HO.ins (He.ga K "Dyads") dx (putF "_yard" x [])) = H1 at *
  repeat walk_at "mst"
  intro d nd
  have e2 := Evl.Ex.new (o := HO.dK []) nd
  have s2 : upd H1 d (HO.dK []) d = some (HO.dK []) := upd_same
  generalize upd H1 d (HO.dK []) = H2 at *
  show tPairs _ _ _ _
  unfold tPairs
  repeat walk_at "mst"
  refine mk_dy1 (a := 0) ⟨by decide, by decide⟩ fun o H3 no e3 hO => ?_
  show tPairs _ _ _ _
  unfold tPairs
  refine ⟨e3 _ _ s2, [(Sum.inl 0, .ref o)], rfl, by show 1 ≤ 15; decide, ?_⟩
  have e4 : Ex H1 (upd H3 d (HO.dK (mergeK [] [(Sum.inl 0, V.ref o)]))) := Evl.Ex.mut (e2.trans e3) nd
  generalize upd H3 d (HO.dK (mergeK [] [(Sum.inl 0, V.ref o)])) = H4 at *
  have m4 := m1.ex e4
  repeat walk_at "mst"
  refine ⟨p, _, dx, _, rfl, e4 _ _ p1, cl, n2, by show 1 < 1000; decide, ?_⟩
  have m5 := m4.set (o := HO.ins (He.ga K "Dyads") dx (putF "_numbers" (.ref d) (putF "_yard" x []))) ⟨_, hp⟩
  have p5 : upd H4 p (HO.ins (He.ga K "Dyads") dx (putF "_numbers" (.ref d) (putF "_yard" x []))) p = some _ := upd_same
  generalize upd H4 p (HO.ins (He.ga K "Dyads") dx (putF "_numbers" (.ref d) (putF "_yard" x []))) = H5 at *
  repeat walk_at "mst"
  refine fun t nt => ?_
  have e6 := Evl.Ex.new (o := HO.dT []) nt
  have s6 : upd H5 t (HO.dT []) t = some (HO.dT []) := upd_same
  generalize upd H5 t (HO.dT []) = H6 at *
  repeat walk_at "mst"
  walk_at "new"; rename_i b nb H7 e7 s7
  repeat walk_at "mst"
  refine ⟨b, [Sum.inl 0, Sum.inl 0], rfl, e7 _ _ s6, s7, ?_⟩
  have e8 : Ex H5 (upd H7 t (HO.dT [([Sum.inl 0, Sum.inl 0], V.int 0)])) := Evl.Ex.mut (e6.trans e7) nt
  generalize upd H7 t (HO.dT [([Sum.inl 0, Sum.inl 0], V.int 0)]) = H8 at *
  have m8 := m5.ex e8
  repeat walk_at "mst"
  refine ⟨p, _, dx, _, rfl, e8 _ _ p5, cl, n3, by show 2 < 1000; decide, ?_⟩
  exact q _ (m8.set ⟨_, hp⟩)
theorem mk_dyads {K : PySem.W.Frag} {H : Hp} {Q : Addr → Hp → Prop} {E : XK} {y : V} (k : ∀ x H', H x = none → Ex H H' → Q x H') :
    ∀ x dx, H x = none → H dx = none → dx ≠ x → sp_Dyads_d_init K (.ref x :: ([y] ++ [])) (upd (upd H dx (.own x)) x (.ins (He.ga K "Dyads") dx [])) (fun v H2 => v = .non ∧ Q x H2) E := by
  intro x dx hx hd hne
  have e : Ex H (upd (upd H dx (.own x)) x (.ins (He.ga K "Dyads") dx [])) := (Evl.Ex.new hd).trans (Evl.Ex.new (by rw [upd_ne hne.symm]; exact hx))
  exact ⟨x, dx, y, rfl, upd_same, fun H' m => ⟨rfl, k x H' hx fun c o z => m.kp c o (e _ _ z) (ne_of_none z hx)⟩⟩
def sp_SimpleSums_d_init (K : PySem.W.Frag) : Sp := fun vs H Q _ => ∃ (p dx : Addr) (x y : V), vs = [.ref p, x, y] ∧ H p = some (.ins (He.ga K "SimpleSums") dx []) ∧ ∀ H', Mk1 p H H' → Q .non H'
abbrev N_SimpleSums_d_init : List Str := ["self", "yard", "reduced"]
def t_SimpleSums_d_init (K : PySem.W.Frag) (E : XK) : TS := (tSeq (sFld K (tVar 0) (tVar 1) "_yard") (tSeq (sFld K (tVar 0) (tVar 2) "_reduced") (tSeq (sFld K (tVar 0) (tMake (He.ga K "Dyads") (sp_Dyads_d_init K) [] E0 (tCons (tVar 1) tNil)) "_dyads") (sFld K (tVar 0) tDNewT "_sums"))))
theorem len_SimpleSums_d_init {K : PySem.W.Frag} {vs : List V} {H : Hp} {Q : VK} {E : XK} (h : sp_SimpleSums_d_init K vs H Q E) : vs.length = 3 := by
  obtain ⟨_, _, _, _, rfl, _⟩ := h; rfl
theorem pure_SimpleSums_d_init {K : PySem.W.Frag} (F : FSimpleSums K) (vs : List V) (H : Hp) (Q : VK) (E : XK) (h : sp_SimpleSums_d_init K vs H Q E) : t_SimpleSums_d_init K E { nx := fun _ H' => Q .non H', rt := Q } (start N_SimpleSums_d_init vs) H := by
  obtain ⟨p, dx, x, y, rfl, hp, q⟩ := h
  obtain ⟨cl, n1, n2, n3, n4⟩ := F
  unfold t_SimpleSums_d_init
  have m0 := Mk1.refl p H
  repeat walk_at "mst"
  refine ⟨p, _, dx, [], rfl, hp, cl, n1, by show 0 < 1000; decide, ?_⟩
  have m1 := m0.set (o := HO.ins (He.ga K "SimpleSums") dx (putF "_yard" x [])) ⟨_, hp⟩
  have p1 : upd H p (HO.ins (He.ga K "SimpleSums") dx (putF "_yard" x [])) p = some _ := upd_same
  generalize upd H p (HO.ins (He.ga K "SimpleSums") dx (putF "_yard" x [])) = H1 at *
  repeat walk_at "mst"
  refine ⟨p, _, dx, _, rfl, p1, cl, n2, by show 1 < 1000; decide, ?_⟩
  have m2 := m1.set (o := HO.ins (He.ga K "SimpleSums") dx (putF "_reduced" y (putF "_yard" x []))) ⟨_, hp⟩
  have p2 : upd H1 p (HO.ins (He.ga K "SimpleSums") dx (putF "_reduced" y (putF "_yard" x []))) p = some _ := upd_same
  generalize upd H1 p (HO.ins (He.ga K "SimpleSums") dx (putF "_reduced" y (putF "_yard" x []))) = H2 at *
  repeat walk_at "mst"
  refine mk_dyads fun d H3 nd e3 => ?_
  have m3 := m2.ex e3
  repeat walk_at "mst"
  refine ⟨p, _, dx, _, rfl, e3 _ _ p2, cl, n3, by show 2 < 1000; decide, ?_⟩
  have m4 := m3.set (o := HO.ins (He.ga K "SimpleSums") dx (putF "_dyads" (.ref d) (putF "_reduced" y (putF "_yard" x [])))) ⟨_, hp⟩
  have p4 : upd H3 p (HO.ins (He.ga K "SimpleSums") dx (putF "_dyads" (.ref d) (putF "_reduced" y (putF "_yard" x [])))) p = some _ := upd_same
  generalize upd H3 p (HO.ins (He.ga K "SimpleSums") dx (putF "_dyads" (.ref d) (putF "_reduced" y (putF "_yard" x [])))) = H4 at *
  repeat walk_at "mst"
  refine fun t nt => ?_
  have e5 := Evl.Ex.new (o := HO.dT []) nt
  have p5 := e5 _ _ p4
  have m5 := m4.ex e5
  generalize upd H4 t (HO.dT []) = H5 at *
  repeat walk_at "mst"
  refine ⟨p, _, dx, _, rfl, p5, cl, n4, by show 3 < 1000; decide, ?_⟩
  exact q _ (m5.set ⟨_, hp⟩)
theorem mk_ssums {K : PySem.W.Frag} {H : Hp} {Q : Addr → Hp → Prop} {E : XK} {y z : V} (k : ∀ x H', H x = none → Ex H H' → Q x H') :
    ∀ x dx, H x = none → H dx = none → dx ≠ x → sp_SimpleSums_d_init K (.ref x :: ([y, z] ++ [])) (upd (upd H dx (.own x)) x (.ins (He.ga K "SimpleSums") dx [])) (fun v H2 => v = .non ∧ Q x H2) E := by
  intro x dx hx hd hne
  have e : Ex H (upd (upd H dx (.own x)) x (.ins (He.ga K "SimpleSums") dx [])) := (Evl.Ex.new hd).trans (Evl.Ex.new (by rw [upd_ne hne.symm]; exact hx))
  exact ⟨x, dx, y, z, rfl, upd_same, fun H' m => ⟨rfl, k x H' hx fun c o z => m.kp c o (e _ _ z) (ne_of_none z hx)⟩⟩
def sp_SimpleForms_d_init (K : PySem.W.Frag) : Sp := fun vs H Q _ => ∃ (p dx : Addr) (x : V), vs = [.ref p, x] ∧ H p = some (.ins (He.ga K "SimpleForms") dx []) ∧ ∀ H', Mk1 p H H' → Q .non H'
local macro_rules | `(tactic| walk_at "mlk") => `(tactic| assumption)
theorem Mk1.bt {p : Addr} {H H1 H2 : Hp} {o : HO} (m : Mk1 p H H1) (b : ∀ c o, H1 c = some o → c ≠ p → H2 c = some o) (hp : H2 p = some o) : Mk1 p H H2 := ⟨fun c o z n => b _ _ (m.kp c o z n) n, fun c z => m.fr c (by
  by_cases e : c = p
  · rw [e, hp] at z; cases z
  · cases q : H1 c with
    | none => rfl
    | some o => rw [b _ _ q e] at z; cases z)⟩
theorem k_put {K : PySem.W.Frag} {R : L2.St → Hp → Prop} {σ : L2.St} {H2 : Hp} {p C dx : Addr} {fs : List (Str × V)} {f : Str} {v : V} {n : Nat} (h : H2 p = some (.ins C dx fs)) (hc : Cls K C) (hn : NoAttr K C f) (hl : fs.length ≤ n) (hn2 : n < 1000)
    (q : ∀ H3 fs', (∀ c o, H2 c = some o → c ≠ p → H3 c = some o) → H3 p = some (.ins C dx fs') → (∀ m : Str, ¬ m = f → fs'.lookup m = fs.lookup m) → fs'.lookup f = some v → fs'.length ≤ n + 1 → R σ H3) :
    ∃ a C dx fs, V.ref p = V.ref a ∧ H2 a = some (.ins C dx fs) ∧ Cls K C ∧ NoAttr K C f ∧ fs.length < 1000 ∧ R σ (upd H2 a (.ins C dx (putF f v fs))) :=
  ⟨p, C, dx, fs, rfl, h, hc, hn, by omega, q _ (putF f v fs) (fun c o e n => (upd_ne n).trans e) upd_same (fun m hm => by rw [lookup_putF, if_neg hm]) (by rw [lookup_putF, if_pos rfl]) (by have := length_putF f v fs; omega)⟩
/-- {0: 0} -/
theorem one_pair {σ : L2.St} {H : Hp} {Q : VK} (q : ∀ d H', H d = none → Ex H H' → Q (.ref d) H') : tDisp [((tC (.int 0)), (tC (.int 0)))] σ H Q := by
  intro t nt
  have e15 := Evl.Ex.new (o := HO.dK []) nt
  have s15 : upd H t (HO.dK []) t = some (HO.dK []) := upd_same
  generalize upd H t (HO.dK []) = H15 at *
  show tPairs _ _ _ _
  unfold tPairs
  refine k_c ?_
  refine k_c ?_
  show tPairs _ _ _ _
  unfold tPairs
  exact ⟨s15, [(Sum.inl 0, V.int 0)], rfl, by decide, q t _ nt (Evl.Ex.mut e15 nt)⟩
theorem YardAt.butI {P : Program} {w : World} {K : PySem.W.Frag} {H H' : Hp} {F : Foot} {G : List Pr} {hs : List Int} {ts : List (Key × V)} (Y : YardAt P w K H F G hs ts) {p C dx : Addr} {fs : List (Str × V)} (hp : H p = some (.ins C dx fs)) (np : F.y ≠ p) (off : Off F p) (k : ∀ c o, H c = some o → c ≠ p → H' c = some o) : YardAt P w K H' F G hs ts :=
  have kt : ∀ c xs, H c = some (.tup xs) → H' c = some (.tup xs) := fun c xs z => k _ _ z (ne_of z hp (by intro y; cases y))
  ⟨k _ _ Y.ins np, let ⟨xs, h1, h2⟩ := Y.ls; ⟨xs, k _ _ h1 off.1.symm, h2.ex kt⟩, let ⟨xs, h1, h2⟩ := Y.rs; ⟨xs, k _ _ h1 off.2.1.symm, h2.ex kt⟩, ⟨k _ _ Y.hs.1 off.2.2.1.symm, Y.hs.2⟩,
    let ⟨kvs, h1, h2, h3⟩ := Y.ns; ⟨kvs, k _ _ h1 off.2.2.2.1.symm, fun x m => (h2 x m).ex kt, h3⟩, k _ _ Y.ts off.2.2.2.2.symm, Y.ne, Y.ht, Y.G⟩
theorem PrAt.keep {K : PySem.W.Frag} {H H' : Hp} {a dx y wn dw wl wr l r kn : Addr} (A : PrAt K H a dx y wn dw wl wr l r kn) (k : ∀ c o, H c = some o → c = a ∨ c = wn ∨ c = wl ∨ c = wr ∨ c = l ∨ c = r ∨ c = kn → H' c = some o) : PrAt K H' a dx y wn dw wl wr l r kn :=
  ⟨k _ _ A.ins (by simp), fun G => (A.wn G).keep fun c o z h => k c o z (by rcases h with h | h | h <;> simp [h]), k _ _ A.hl (by simp), k _ _ A.hr (by simp), k _ _ A.hk (by simp), A.d1, A.d2, A.d3⟩
theorem ins_ne {H : Hp} {a b C D dx dy : Addr} {fs gs : List (Str × V)} (m : Str) (h1 : H a = some (.ins C dx fs)) (h2 : H b = some (.ins D dy gs)) (l1 : fs.lookup m = none) {v : V} (l2 : gs.lookup m = some v) : a ≠ b := fun e => by
  rw [e, h2] at h1
  cases h1
  rw [l1] at l2; cases l2
abbrev N_SimpleForms_d_init : List Str := ["self", "yard"]
def t_SimpleForms_d_init (P : Program) (w : World) (K : PySem.W.Frag) (E : XK) : TS := (tSeq (sFld K (tVar 0) (tVar 1) "_yard") (tSeq (sFld K (tVar 0) (tMake (He.ga K "Yard") (sp_Yard_d_init P w K) [] E0 tNil) "_own") (tSeq (sFld K (tVar 0) (tMake (He.ga K "Pairs") (sp_Pairs_d_init K) [] E0 (tCons (tFld K (tVar 0) "_own") tNil)) "_pairs") (tSeq (tDrop (tMeth (He.ga K "Pairs") "catch_up" (sp_Pairs_m_catch_up P w K) [] E0 (tFld K (tVar 0) "_pairs") tNil)) (tSeq (sFld K (tVar 0) (tMake (He.ga K "Ranks") (sp_Ranks_d_init K) [] E0 (tCons (tFld K (tVar 0) "_pairs") tNil)) "_ranks") (tSeq (sFld K (tVar 0) (tMake (He.ga K "SimpleSums") (sp_SimpleSums_d_init K) [] E0 (tCons (tFld K (tVar 0) "_own") (tCons (tBndM (He.ga K "SimpleForms") "reduced" (He.ma K (He.ga K "SimpleForms") "reduced") (tVar 0)) tNil))) "_sums") (tSeq (sFld K (tVar 0) tDNewK "_known_sums") (tSeq (sFld K (tVar 0) (tDisp [((tC (.int 0)), (tC (.int 0)))]) "_forms") (sFld K (tVar 0) (tDisp [((tC (.int 0)), (tC (.int 0)))]) "_own_forms")))))))))
theorem len_SimpleForms_d_init {K : PySem.W.Frag} {vs : List V} {H : Hp} {Q : VK} {E : XK} (h : sp_SimpleForms_d_init K vs H Q E) : vs.length = 2 := by
  obtain ⟨_, _, _, rfl, _⟩ := h; rfl
theorem pure_SimpleForms_d_init {P : Program} {w : World} {K : PySem.W.Frag} (F : FSimpleForms K) (vs : List V) (H : Hp) (Q : VK) (E : XK) (h : sp_SimpleForms_d_init K vs H Q E) : t_SimpleForms_d_init P w K E { nx := fun _ H' => Q .non H', rt := Q } (start N_SimpleForms_d_init vs) H := by
  obtain ⟨p, dx, x, rfl, hp, q⟩ := h
  obtain ⟨cl, n1, n2, n3, n4, n5, n6, n7, n8⟩ := F
  unfold t_SimpleForms_d_init
  have m0 := Mk1.refl p H
  repeat walk_at "mst"
  refine k_put (n := 0) hp cl n1 (by decide) (by decide) fun H1 fs1 b1 p1 o1 l1 g1 => ?_
  have m1 := m0.bt b1 p1
  have r1 : fs1.lookup ("reduced" : Str) = none := (o1 _ (by decide +kernel)).trans rfl
  have t1 : fs1.lookup ("_turned" : Str) = none := (o1 _ (by decide +kernel)).trans rfl
  clear b1 o1 l1
  repeat walk_at "mst"
  refine mk_yard fun Fo H2 kp2 Y => ?_
  have e2 : Ex H1 H2 := fun c o z => (kp2 c o z).1
  have po := (kp2 _ _ p1).2
  have m2 := m1.ex e2
  have p2 := e2 _ _ p1
  have ny : Fo.y ≠ p := (ins_ne ("_turned" : Str) p2 Y.ins t1 (yfs_t Fo)).symm
  repeat walk_at "mst"
  refine k_put (n := 1) p2 cl n2 g1 (by decide) fun H3 fs3 b3 p3 o3 l3 g3 => ?_
  have m3 := m2.bt b3 p3
  have r3 : fs3.lookup ("reduced" : Str) = none := (o3 _ (by decide +kernel)).trans r1
  have Y3 : YardAt P w K H3 Fo [([], [])] [0] [(Sum.inl 0, V.int 0)] := Y.butI p2 ny po b3
  clear b3 o3
  repeat walk_at "mst"
  refine mk_pairs fun pr dp wn dw wl wr l r kn H4 npr e4 A f1 f2 f3 f4 f5 => ?_
  have m4 := m3.ex e4
  have p4 := e4 _ _ p3
  have Y4 := Y3.ex e4
  have prp : pr ≠ p := (ne_of_none p3 npr).symm
  have wnp : wn ≠ p := ins_ne ("_own" : Str) (A.wn []).ins p4 (wfs_no _ _ _ (by decide +kernel) (by decide +kernel) (by decide +kernel)) l3
  repeat walk_at "mst"
  refine k_put (n := 2) p4 cl n3 g3 (by decide) fun H5 fs5 b5 p5 o5 l5 g5 => ?_
  have m5 := m4.bt b5 p5
  have r5 : fs5.lookup ("reduced" : Str) = none := (o5 _ (by decide +kernel)).trans r3
  have w5 := (o5 ("_own" : Str) (by decide +kernel)).trans l3
  have Y5 := Y4.butI p4 ny po b5
  have A5 : PrAt K H5 pr dp Fo.y wn dw wl wr l r kn := A.keep fun c o z h => b5 c o z (by
    rcases h with rfl | rfl | rfl | rfl | rfl | rfl | rfl
    · exact prp
    · exact wnp
    · exact (ne_of_none p3 f1).symm
    · exact (ne_of_none p3 f2).symm
    · exact (ne_of_none p3 f3).symm
    · exact (ne_of_none p3 f4).symm
    · exact (ne_of_none p3 f5).symm)
  have z5 : ∀ c, H3 c = none → p ≠ c := fun c z => ne_of_none p3 z
  clear b5 o5
  repeat walk_at "mst"
  refine ⟨pr, dp, _, rfl, A5.ins, pfs_no _ _ _ _ _ (by decide +kernel) (by decide +kernel) (by decide +kernel) (by decide +kernel) (by decide +kernel), ?_⟩
  repeat walk_at "mst"
  refine use_pcatch Y5 A5 (Y3.fresh f1) (Y3.fresh f2) (Y3.fresh f3) (Y3.fresh f4) (Y3.fresh f5) fun H6 k6 => ?_
  have p6 := k6 _ _ p5 (z5 _ f1) (z5 _ f2) (z5 _ f3) (z5 _ f4) (z5 _ f5)
  have m6 : Mk1 p H H6 := by
    have kp : ∀ c o, H c = some o → c ≠ p → H6 c = some o := fun c o z n => by
      have nn : ∀ d, H3 d = none → c ≠ d := fun d y => ne_of_none (m3.kp c o z n) y
      exact k6 _ _ (m5.kp c o z n) (nn _ f1) (nn _ f2) (nn _ f3) (nn _ f4) (nn _ f5)
    exact Mk1.bt (Mk1.refl p H) kp p6
  repeat walk_at "mst"
  refine mk_ranks fun rk H7 nrk e7 => ?_
  have m7 := m6.ex e7
  have p7 := e7 _ _ p6
  repeat walk_at "mst"
  refine k_put (n := 3) p7 cl n4 g5 (by decide) fun H8 fs8 b8 p8 o8 l8 g8 => ?_
  have m8 := m7.bt b8 p8
  have r8 : fs8.lookup ("reduced" : Str) = none := (o8 _ (by decide +kernel)).trans r5
  have w8 := (o8 ("_own" : Str) (by decide +kernel)).trans w5
  clear b8 o8
  repeat walk_at "mst"
  refine k_bndM ?_
  repeat walk_at "mst"
  refine ⟨p, dx, fs8, rfl, p8, r8, fun d nd => ?_⟩
  have e9 := Evl.Ex.new (o := HO.met (He.ma K (He.ga K "SimpleForms") "reduced") p) nd
  have m9 := m8.ex e9
  have p9 := e9 _ _ p8
  generalize upd H8 d (HO.met (He.ma K (He.ga K "SimpleForms") "reduced") p) = H9 at *
  repeat walk_at "mst"
  refine mk_ssums fun ss H10 nss e10 => ?_
  have m10 := m9.ex e10
  have p10 := e10 _ _ p9
  repeat walk_at "mst"
  refine k_put (n := 4) p10 cl n5 g8 (by decide) fun H11 fs11 b11 p11 o11 l11 g11 => ?_
  have m11 := m10.bt b11 p11
  clear b11 o11
  repeat walk_at "mst"
  refine fun t nt => ?_
  have e12 := Evl.Ex.new (o := HO.dK []) nt
  have m12 := m11.ex e12
  have p12 := e12 _ _ p11
  generalize upd H11 t (HO.dK []) = H12 at *
  repeat walk_at "mst"
  refine k_put (n := 5) p12 cl n6 g11 (by decide) fun H13 fs13 b13 p13 o13 l13 g13 => ?_
  have m13 := m12.bt b13 p13
  clear b13 o13
  repeat walk_at "mst"
  refine one_pair fun d1 H14 nd1 e14 => ?_
  have m14 := m13.ex e14
  have p14 := e14 _ _ p13
  repeat walk_at "mst"
  refine k_put (n := 6) p14 cl n7 g13 (by decide) fun H15 fs15 b15 p15 o15 l15 g15 => ?_
  have m15 := m14.bt b15 p15
  clear b15 o15
  repeat walk_at "mst"
  refine one_pair fun d2 H16 nd2 e16 => ?_
  have m16 := m15.ex e16
  have p16 := e16 _ _ p15
  repeat walk_at "mst"
  refine k_put (n := 7) p16 cl n8 g15 (by decide) fun H17 fs17 b17 p17 o17 l17 g17 => ?_
  have m17 := m16.bt b17 p17
  exact q _ m17
theorem mk_simple {K : PySem.W.Frag} {H : Hp} {Q : Addr → Hp → Prop} {E : XK} {y : V} (k : ∀ x H', H x = none → Ex H H' → Q x H') :
    ∀ x dx, H x = none → H dx = none → dx ≠ x → sp_SimpleForms_d_init K (.ref x :: ([y] ++ [])) (upd (upd H dx (.own x)) x (.ins (He.ga K "SimpleForms") dx [])) (fun v H2 => v = .non ∧ Q x H2) E := by
  intro x dx hx hd hne
  have e : Ex H (upd (upd H dx (.own x)) x (.ins (He.ga K "SimpleForms") dx [])) := (Evl.Ex.new hd).trans (Evl.Ex.new (by rw [upd_ne hne.symm]; exact hx))
  exact ⟨x, dx, y, rfl, upd_same, fun H' m => ⟨rfl, k x H' hx fun c o z => m.kp c o (e _ _ z) (ne_of_none z hx)⟩⟩
def ofs (y wn sm : Addr) : List (Str × V) := putF "_simple" (.ref sm) (putF "_wins" (.ref wn) (putF "_yard" (.ref y) []))
theorem ofs_y (y wn sm : Addr) : (ofs y wn sm).lookup ("_yard" : Str) = some (.ref y) := by
  unfold ofs
  rw [lookup_putF, if_neg (by decide +kernel), lookup_putF, if_neg (by decide +kernel), lookup_putF, if_pos rfl]
theorem ofs_w (y wn sm : Addr) : (ofs y wn sm).lookup ("_wins" : Str) = some (.ref wn) := by
  unfold ofs
  rw [lookup_putF, if_neg (by decide +kernel), lookup_putF, if_pos rfl]
theorem ofs_no (y wn sm : Addr) {m : Str} (h1 : ¬ m = "_simple") (h2 : ¬ m = "_wins") (h3 : ¬ m = "_yard") : (ofs y wn sm).lookup m = none := by
  unfold ofs
  rw [lookup_putF, if_neg h1, lookup_putF, if_neg h2, lookup_putF, if_neg h3]
  rfl
/-- an order that has read nothing -/
structure OrNew (K : PySem.W.Frag) (H : Hp) (a dx y wn dw wl wr sm : Addr) : Prop where
  ins : H a = some (.ins (He.ga K "Order") dx (ofs y wn sm))
  wn : ∀ G, WnAt K H wn dw y wl wr G 0
def sp_Order_d_init (K : PySem.W.Frag) : Sp := fun vs H Q _ => ∃ (p dx y : Addr), vs = [.ref p, .ref y] ∧ H p = some (.ins (He.ga K "Order") dx []) ∧ ∀ wn dw wl wr sm H', Mk1 p H H' → OrNew K H' p dx y wn dw wl wr sm → H wl = none → H wr = none → Q .non H'
abbrev N_Order_d_init : List Str := ["self", "yard"]
def t_Order_d_init (K : PySem.W.Frag) (E : XK) : TS := (tSeq (sFld K (tVar 0) (tVar 1) "_yard") (tSeq (sFld K (tVar 0) (tMake (He.ga K "Wins") (sp_Wins_d_init K) [] E0 (tCons (tVar 1) tNil)) "_wins") (sFld K (tVar 0) (tMake (He.ga K "SimpleForms") (sp_SimpleForms_d_init K) [] E0 (tCons (tVar 1) tNil)) "_simple")))
theorem len_Order_d_init {K : PySem.W.Frag} {vs : List V} {H : Hp} {Q : VK} {E : XK} (h : sp_Order_d_init K vs H Q E) : vs.length = 2 := by
  obtain ⟨_, _, _, rfl, _⟩ := h; rfl
theorem pure_Order_d_init {K : PySem.W.Frag} (F : FOrder K) (vs : List V) (H : Hp) (Q : VK) (E : XK) (h : sp_Order_d_init K vs H Q E) : t_Order_d_init K E { nx := fun _ H' => Q .non H', rt := Q } (start N_Order_d_init vs) H := by
  obtain ⟨p, dx, y, rfl, hp, q⟩ := h
  obtain ⟨cl, n1, n2, n3⟩ := F
  unfold t_Order_d_init
  have m0 := Mk1.refl p H
  repeat walk_at "mst"
  refine ⟨p, _, dx, [], rfl, hp, cl, n1, by show 0 < 1000; decide, ?_⟩
  have m1 := m0.set (o := HO.ins (He.ga K "Order") dx (putF "_yard" (.ref y) [])) ⟨_, hp⟩
  have p1 : upd H p (HO.ins (He.ga K "Order") dx (putF "_yard" (.ref y) [])) p = some _ := upd_same
  generalize upd H p (HO.ins (He.ga K "Order") dx (putF "_yard" (.ref y) [])) = H1 at *
  repeat walk_at "mst"
  refine mk_wins fun wn dw wl wr H2 nwn nwl nwr e2 W => ?_
  have m2 := m1.ex e2
  have p2 := e2 _ _ p1
  have nwp : wn ≠ p := fun h => by rw [h, p1] at nwn; cases nwn
  have nlp : wl ≠ p := fun h => by rw [h, p1] at nwl; cases nwl
  have nrp : wr ≠ p := fun h => by rw [h, p1] at nwr; cases nwr
  have g1 := m1.fr _ nwl
  have g2 := m1.fr _ nwr
  repeat walk_at "mst"
  refine ⟨p, _, dx, _, rfl, p2, cl, n2, by show 1 < 1000; decide, ?_⟩
  have m3 := m2.set (o := HO.ins (He.ga K "Order") dx (putF "_wins" (.ref wn) (putF "_yard" (.ref y) []))) ⟨_, hp⟩
  have p3 : upd H2 p (HO.ins (He.ga K "Order") dx (putF "_wins" (.ref wn) (putF "_yard" (.ref y) []))) p = some _ := upd_same
  have W3 : ∀ G, WnAt K (upd H2 p (HO.ins (He.ga K "Order") dx (putF "_wins" (.ref wn) (putF "_yard" (.ref y) [])))) wn dw y wl wr G 0 := fun G => (W G).keep fun c o z h => (upd_ne (by rcases h with rfl | rfl | rfl <;> assumption)).trans z
  generalize upd H2 p (HO.ins (He.ga K "Order") dx (putF "_wins" (.ref wn) (putF "_yard" (.ref y) []))) = H3 at *
  repeat walk_at "mst"
  refine mk_simple fun sm H4 nsm e4 => ?_
  have m4 := m3.ex e4
  have p4 := e4 _ _ p3
  repeat walk_at "mst"
  refine ⟨p, _, dx, _, rfl, p4, cl, n3, by show 2 < 1000; decide, ?_⟩
  exact q wn dw wl wr sm _ (m4.set ⟨_, hp⟩) ⟨upd_same, fun G => ((W3 G).ex e4).keep fun c o z h => (upd_ne (by rcases h with rfl | rfl | rfl <;> assumption)).trans z⟩ g1 g2
theorem mk_order {K : PySem.W.Frag} {H : Hp} {Q : Addr → Hp → Prop} {E : XK} {y : Addr} (k : ∀ x dx wn dw wl wr sm H', H x = none → Ex H H' → OrNew K H' x dx y wn dw wl wr sm → H wl = none → H wr = none → Q x H') :
    ∀ x dx, H x = none → H dx = none → dx ≠ x → sp_Order_d_init K (.ref x :: ([.ref y] ++ [])) (upd (upd H dx (.own x)) x (.ins (He.ga K "Order") dx [])) (fun v H2 => v = .non ∧ Q x H2) E := by
  intro x dx hx hd hne
  have e : Ex H (upd (upd H dx (.own x)) x (.ins (He.ga K "Order") dx [])) := (Evl.Ex.new hd).trans (Evl.Ex.new (by rw [upd_ne hne.symm]; exact hx))
  exact ⟨x, dx, y, rfl, upd_same, fun wn dw wl wr sm H' m A h1 h2 => ⟨rfl, k x dx wn dw wl wr sm H' hx (fun c o z => m.kp c o (e _ _ z) (ne_of_none z hx)) A (Evl.fresh_back e h1) (Evl.fresh_back e h2)⟩⟩
def sp_Yard_p_kept (P : Program) (w : World) (K : PySem.W.Frag) : Sp := fun vs H Q _ => ∃ (F : Foot) (G : List Pr) (hs : List Int) (ts : List (Key × V)) (pl pr : Addr) (as bs : List Int), vs = [.ref F.y, .ref pl, .ref pr] ∧ YardAt P w K H F G hs ts ∧
  H pl = some (.tup (as.map V.int)) ∧ H pr = some (.tup (bs.map V.int)) ∧ Asc G.length as ∧ Asc G.length bs ∧ G.length ≤ 1000 ∧
  ∀ (i : Int) (G' : List Pr) (hs' : List Int) (H' : Hp), Gr F H H' → YardAt P w K H' F G' hs' ts → Put G (as, bs) i G' → Hgt G hs (as, bs) G' hs' → Q (.int i) H'
abbrev N_Yard_p_kept : List Str := ["self", "lefts", "rights", "options", "option"]
def t_Yard_p_kept (P : Program) (w : World) (K : PySem.W.Frag) (E : XK) : TS := (tSeq (tAsg (tTup (tCons (tVar 1) (tCons (tVar 2) tNil))) (gName 3)) (Evl.tCut (tIfS (tB (tNNot P w (tVar 3) (tFld K (tVar 0) "_numbers"))) (tSeq (sNPut P w (tFld K (tVar 0) "_numbers") (tVar 3) (tCB (rLenQ K) (tCons (tFld K (tVar 0) "_lefts") tNil))) (tSeq (tDrop (tBM K "list" rAppend (tFld K (tVar 0) "_heights") (tCons (tOp rAddI (tC (.int 1)) (tCB (rMax K) (tCons (tLc (iTup K (tOp (rCatA K) (tVar 1) (tVar 2))) (gName 4) tYes (tOp (rIxL K) (tFld K (tVar 0) "_heights") (tVar 4)) [4]) tNil))) tNil))) (tSeq (tDrop (tBM K "list" rAppend (tFld K (tVar 0) "_lefts") (tCons (tVar 1) tNil))) (tDrop (tBM K "list" rAppend (tFld K (tVar 0) "_rights") (tCons (tVar 2) tNil)))))) tNext) (tRet (tNGet P w (tFld K (tVar 0) "_numbers") (tVar 3)))))
theorem map_more' (ds : List Int) (z : Int) : ds.map V.int ++ [V.int z] = (ds ++ [z]).map V.int := by simp
theorem len_Yard_p_kept {P : Program} {w : World} {K : PySem.W.Frag} {vs : List V} {H : Hp} {Q : VK} {E : XK} (h : sp_Yard_p_kept P w K vs H Q E) : vs.length = 3 := by
  obtain ⟨_, _, _, _, _, _, _, _, rfl, _⟩ := h; rfl
theorem pure_Yard_p_kept {P : Program} {w : World} {K : PySem.W.Frag} (FY : FYard K) (vs : List V) (H : Hp) (Q : VK) (E : XK) (h : sp_Yard_p_kept P w K vs H Q E) : t_Yard_p_kept P w K E { nx := fun _ H' => Q .non H', rt := Q } (start N_Yard_p_kept vs) H := by
  obtain ⟨F, G, hs, ts, pl, pr, as, bs, rfl, Y, hpl, hpr, aa, ab, big, q⟩ := h
  unfold t_Yard_p_kept
  repeat walk_at "mst"
  refine ⟨by show 2 ≤ sizeLine; decide, fun o no => ?_⟩
  have e1 := Evl.Ex.new (o := HO.tup [V.ref pl, V.ref pr]) no
  have s1 : upd H o (HO.tup [V.ref pl, V.ref pr]) o = some (HO.tup [V.ref pl, V.ref pr]) := upd_same
  generalize upd H o (HO.tup [V.ref pl, V.ref pr]) = H1 at *
  have Y1 := Y.ex e1
  have hpl1 := e1 _ _ hpl
  have hpr1 := e1 _ _ hpr
  have kk : PrT H1 o (as, bs) := ⟨pl, pr, s1, hpl1, hpr1⟩
  have hi := Y1.ins
  obtain ⟨xs, hl, rows⟩ := Y1.ls
  obtain ⟨ys, hr, rowsR⟩ := Y1.rs
  obtain ⟨hh, hlen⟩ := Y1.hs
  obtain ⟨kvs, hn, keys, ents⟩ := Y1.ns
  have lk := ents.look Y1.G.one (p := (as, bs))
  repeat walk_at "mst"
  refine k_cut (fun σ' H' => ∃ (i : Int) (G' : List Pr) (hs' : List Int) (x : Option V), Gr F H H' ∧ YardAt P w K H' F G' hs' ts ∧ PrT H' o (as, bs) ∧ Put G (as, bs) i G' ∧ Hgt G hs (as, bs) G' hs' ∧ σ' = [some (.ref F.y), some (.ref pl), some (.ref pr), some (.ref o), x]) ?_ ?_
  · repeat walk_at "mst"
    refine ⟨F.n, o, kvs, (as, bs), rfl, rfl, hn, keys, kk, ?_⟩
    repeat walk_at "mst"
    by_cases m : (as, bs) ∈ G
    · obtain ⟨k, hk⟩ := List.mem_iff_getElem?.mp m
      rw [if_neg (by rw [lk.2 k hk]; simp)]
      repeat walk_at "mst"
      exact ⟨(k : Int), G, hs, none, Gr.of e1, Y1, kk, Or.inl ⟨k, rfl, hk, rfl⟩, Or.inl ⟨m, rfl⟩, rfl⟩
    · rw [if_pos (by rw [lk.1 m]; rfl)]
      have xl : (xs.length : Int) = (G.length : Int) := by rw [rows.1, List.length_map]
      have some1 : 0 < (as ++ bs).length := by
        rw [List.length_append]
        rcases as with _ | ⟨x, as⟩
        · rcases bs with _ | ⟨y, bs⟩
          · exact absurd (List.mem_of_getElem? Y.G.zero) m
          · simp
        · simp only [List.length_cons]; omega
      have la := aa.len
      have lb := ab.len
      have lab : (as.map V.int).length + (bs.map V.int).length ≤ sizeLine := by
        rw [List.length_map, List.length_map]; exact Nat.le_trans (show _ ≤ 2000 by omega) (by decide)
      repeat walk_at "mst"
      refine ⟨F.n, o, kvs, (as, bs), _, rfl, rfl, rfl, hn, keys, kk, lk.1 m, by rw [ents.1]; exact Nat.lt_of_le_of_lt big (by decide), ?_⟩
      rw [xl]
      have b2 : ∀ c u, H1 c = some u → c ≠ F.n → upd H1 F.n (NdO P w F.n (kvs ++ [((as, bs), o, (G.length : Int))])) c = some u := fun c u z y => (upd_ne y).trans z
      have s2 : upd H1 F.n (NdO P w F.n (kvs ++ [((as, bs), o, (G.length : Int))])) F.n = some (NdO P w F.n (kvs ++ [((as, bs), o, (G.length : Int))])) := upd_same
      generalize upd H1 F.n (NdO P w F.n (kvs ++ [((as, bs), o, (G.length : Int))])) = H2 at *
      have t2 : ∀ c zs, H1 c = some (.tup zs) → H2 c = some (.tup zs) := fun c zs z => b2 _ _ z (ne_of z hn (by intro y; cases y))
      have hi2 := b2 _ _ hi (ne_of hi hn (by intro y; cases y))
      have hh2 := b2 _ _ hh (ne_of hh hn (by intro y; cases y))
      have hl2 := b2 _ _ hl (ne_of hl hn (by intro y; cases y))
      have hr2 := b2 _ _ hr (ne_of hr hn (by intro y; cases y))
      have hpl2 := t2 _ _ hpl1
      have hpr2 := t2 _ _ hpr1
      repeat walk_at "mst"
      refine k_rCatA (k_st hpl2) (k_st hpr2) lab fun p H3 e3 hp => ?_
      refine ⟨p, rfl, ⟨_, hp⟩, lcR_tup (K := K) (onI (hat hs)) hp (by rw [List.length_append]; exact Nat.lt_of_le_of_lt (show _ ≤ 2000 by rw [List.length_map, List.length_map]; omega) (by decide)) (fun x hx => ?_) (fun D H4 nD e4 hD => ?_)⟩
      · rw [← List.map_append] at hx
        obtain ⟨k, hk, rfl⟩ := List.mem_map.mp hx
        have bk : 0 ≤ k ∧ k < G.length := by
          rcases List.mem_append.mp hk with h | h
          · exact aa.2 k h
          · exact ab.2 k h
        refine turn_map fun H' e R r => ?_
        have hi' := e _ _ (e3 _ _ hi2)
        have hh' := e _ _ (e3 _ _ hh2)
        repeat walk_at "mst"
        exact k_ixL (k_sq hh') (hat_at hlen bk.1 bk.2) r
      · rw [← List.map_append, onI_map] at hD
        have e24 := e3.trans e4
        have hi4 := e24 _ _ hi2
        have hh4 := e24 _ _ hh2
        have hl4 := e24 _ _ hl2
        have hr4 := e24 _ _ hr2
        have hn4 := e24 _ _ s2
        repeat walk_at "mst"
        refine k_rMaxL (k_sq hD) (by rw [List.length_map]; exact some1) fun mx mm ml => ?_
        repeat walk_at "mst"
        · exact k_sizeL (by rw [hlen]; omega)
        have b5 : ∀ c u, H4 c = some u → c ≠ F.h → upd H4 F.h (HO.lst (hs.map V.int ++ [V.int (1 + mx)])) c = some u := fun c u z y => (upd_ne y).trans z
        have s5 : upd H4 F.h (HO.lst (hs.map V.int ++ [V.int (1 + mx)])) F.h = some (HO.lst ((hs ++ [1 + mx]).map V.int)) := by rw [upd_same, map_more']
        generalize upd H4 F.h (HO.lst (hs.map V.int ++ [V.int (1 + mx)])) = H5 at *
        have hi5 := b5 _ _ hi4 (ne_of hi4 hh4 (by intro y; cases y))
        have hl5 := b5 _ _ hl4 Y.ne.2.1
        have hr5 := b5 _ _ hr4 Y.ne.2.2
        have hn5 := b5 _ _ hn4 (ne_of hn4 hh4 (by intro y; cases y))
        have t5 : ∀ c zs, H4 c = some (.tup zs) → H5 c = some (.tup zs) := fun c zs z => b5 _ _ z (ne_of z hh4 (by intro y; cases y))
        have xll : xs.length < sizeLine := by
          have : xs.length = G.length := by rw [rows.1, List.length_map]
          rw [this]; exact Nat.lt_of_le_of_lt big (by decide)
        have yll : ys.length < sizeLine := by
          have : ys.length = G.length := by rw [rowsR.1, List.length_map]
          rw [this]; exact Nat.lt_of_le_of_lt big (by decide)
        repeat walk_at "mst"
        · exact xll
        have b6 : ∀ c u, H5 c = some u → c ≠ F.l → upd H5 F.l (HO.lst (xs ++ [V.ref pl])) c = some u := fun c u z y => (upd_ne y).trans z
        have s6 : upd H5 F.l (HO.lst (xs ++ [V.ref pl])) F.l = some (HO.lst (xs ++ [V.ref pl])) := upd_same
        generalize upd H5 F.l (HO.lst (xs ++ [V.ref pl])) = H6 at *
        have hi6 := b6 _ _ hi5 (ne_of hi5 hl5 (by intro y; cases y))
        have hr6 := b6 _ _ hr5 Y.ne.1.symm
        have hn6 := b6 _ _ hn5 (ne_of hn5 hl5 (by intro y; cases y))
        have hh6 := b6 _ _ s5 Y.ne.2.1.symm
        have t6 : ∀ c zs, H5 c = some (.tup zs) → H6 c = some (.tup zs) := fun c zs z => b6 _ _ z (ne_of z hl5 (by intro y; cases y))
        repeat walk_at "mst"
        · exact yll
        have b7 : ∀ c u, H6 c = some u → c ≠ F.r → upd H6 F.r (HO.lst (ys ++ [V.ref pr])) c = some u := fun c u z y => (upd_ne y).trans z
        have s7 : upd H6 F.r (HO.lst (ys ++ [V.ref pr])) F.r = some (HO.lst (ys ++ [V.ref pr])) := upd_same
        generalize upd H6 F.r (HO.lst (ys ++ [V.ref pr])) = H7 at *
        have t7 : ∀ c zs, H1 c = some (.tup zs) → H7 c = some (.tup zs) := fun c zs z => b7 _ _ (t6 _ _ (t5 _ _ (e24 _ _ (t2 _ _ z)))) (ne_of (t6 _ _ (t5 _ _ (e24 _ _ (t2 _ _ z)))) hr6 (by intro y; cases y))
        have pt : Put G (as, bs) (G.length : Int) (G ++ [(as, bs)]) := Or.inr ⟨m, rfl, rfl⟩
        have off7 : ∀ c u, H1 c = some u → Off F c → H7 c = some u := fun c u z f => b7 _ _ (b6 _ _ (b5 _ _ (e24 _ _ (b2 _ _ z f.2.2.2.1)) f.2.2.1) f.1) f.2.1
        have tt := Y1.ts
        have ft : F.t ≠ F.l ∧ F.t ≠ F.r ∧ F.t ≠ F.h ∧ F.t ≠ F.n := ⟨ne_of tt hl (by intro y; cases y), ne_of tt hr (by intro y; cases y), ne_of tt hh (by intro y; cases y), ne_of tt hn (by intro y; cases y)⟩
        have tt7 : H7 F.t = some (.dK ts) := b7 _ _ (b6 _ _ (b5 _ _ (e24 _ _ (b2 _ _ tt ft.2.2.2)) ft.2.2.1) ft.1) ft.2.1
        have hh7 := b7 _ _ hh6 Y.ne.2.2.symm
        have hl7 := b7 _ _ s6 Y.ne.1
        have hn7 := b7 _ _ hn6 (ne_of hn6 hr6 (by intro y; cases y))
        have hi7 := b7 _ _ hi6 (ne_of hi6 hr6 (by intro y; cases y))
        refine ⟨(G.length : Int), G ++ [(as, bs)], hs ++ [1 + mx], none, fun c u z f => off7 c u (e1 c u z) f, ⟨hi7, ⟨_, hl7, ?_⟩, ⟨_, s7, ?_⟩, ⟨hh7, by rw [List.length_append, List.length_append, hlen]; rfl⟩, ⟨_, hn7, ?_, ents.snoc (as, bs) o⟩, tt7, Y.ne, Y.ht.snoc hlen Y.G aa ab (Or.inr ⟨mx, mm, ml, rfl⟩), Y.G.put pt aa ab⟩, kk.ex t7, pt, Or.inr ⟨m, mx, rfl, mm, ml⟩, rfl⟩
        · rw [List.map_append]
          exact (rows.ex t7).snoc (t7 _ _ hpl1)
        · rw [List.map_append]
          exact (rowsR.ex t7).snoc (t7 _ _ hpr1)
        · intro x hx
          rcases List.mem_append.mp hx with h | h
          · exact (keys x h).ex t7
          · rw [List.mem_singleton] at h
            subst h
            exact kk.ex t7
  · rintro σ' H' ⟨i, G', hs', x, gr, Y', kk', pt, hg, rfl⟩
    have hi := Y'.ins
    obtain ⟨kvs', hn', keys', ents'⟩ := Y'.ns
    obtain ⟨k, ei, hk⟩ := pt.get
    repeat walk_at "mst"
    refine ⟨F.n, o, kvs', (as, bs), (k : Int), rfl, rfl, hn', keys', kk', (ents'.look Y'.G.one).2 k hk, ?_⟩
    rw [← ei]
    exact q i G' hs' H' gr Y' pt hg
/-- the ascending list of the members of l -/
def AscOf (l as : List Int) : Prop := as.Pairwise (· < ·) ∧ ∀ k, k ∈ as ↔ k ∈ l
def sp_Yard_m_game (P : Program) (w : World) (K : PySem.W.Frag) : Sp := fun vs H Q _ => ∃ (F : Foot) (G : List Pr) (hs : List Int) (ts : List (Key × V)) (pl pr : Addr) (ls rs : List Int), vs = [.ref F.y, .ref pl, .ref pr] ∧ YardAt P w K H F G hs ts ∧
  SqL K H pl (ls.map V.int) ∧ SqL K H pr (rs.map V.int) ∧ (∀ x ∈ ls, 0 ≤ x ∧ x < G.length) ∧ (∀ x ∈ rs, 0 ≤ x ∧ x < G.length) ∧ (ls.length < 64 ∧ rs.length < 64) ∧ G.length ≤ 1000 ∧
  ∀ (as bs : List Int) (i : Int) (G' : List Pr) (hs' : List Int) (H' : Hp), AscOf ls as → AscOf rs bs → Gr F H H' → YardAt P w K H' F G' hs' ts → Put G (as, bs) i G' → Hgt G hs (as, bs) G' hs' → Q (.int i) H'
abbrev N_Yard_m_game : List Str := ["self", "lefts", "rights", "option"]
def t_Yard_m_game (P : Program) (w : World) (K : PySem.W.Frag) (E : XK) : TS := (tSeq (tFor (iList K (tVar 1)) (gName 3) (tDrop (tMeth (He.ga K "Yard") "check" (sp_Yard_m_check P w K) [] E0 (tVar 0) (tCons (tVar 3) tNil)))) (tSeq (tFor (iList K (tVar 2)) (gName 3) (tDrop (tMeth (He.ga K "Yard") "check" (sp_Yard_m_check P w K) [] E0 (tVar 0) (tCons (tVar 3) tNil)))) (tRet (tMeth (He.ga K "Yard") "_kept" (sp_Yard_p_kept P w K) [] E0 (tVar 0) (tCons (tCB (rTupL K) (tCons (tCB (rSortX w) (tCons (tCB (rSetL K w) (tCons (tVar 1) tNil)) tNil)) tNil)) (tCons (tCB (rTupL K) (tCons (tCB (rSortX w) (tCons (tCB (rSetL K w) (tCons (tVar 2) tNil)) tNil)) tNil)) tNil))))))
theorem len_Yard_m_game {P : Program} {w : World} {K : PySem.W.Frag} {vs : List V} {H : Hp} {Q : VK} {E : XK} (h : sp_Yard_m_game P w K vs H Q E) : vs.length = 3 := by
  obtain ⟨_, _, _, _, _, _, _, _, rfl, _⟩ := h; rfl
theorem AscOf.asc {l as : List Int} {n : Nat} (h : AscOf l as) (b : ∀ x ∈ l, 0 ≤ x ∧ x < (n : Int)) : Asc n as := ⟨h.1, fun x m => b x ((h.2 x).mp m)⟩
theorem pure_Yard_m_game {P : Program} {w : World} {K : PySem.W.Frag} (vs : List V) (H : Hp) (Q : VK) (E : XK) (h : sp_Yard_m_game P w K vs H Q E) : t_Yard_m_game P w K E { nx := fun _ H' => Q .non H', rt := Q } (start N_Yard_m_game vs) H := by
  obtain ⟨F, G, hs, ts, pl, pr, ls, rs, rfl, Y, hpl, hpr, bl, br, few, big, q⟩ := h
  unfold t_Yard_m_game
  repeat walk_at "mst"
  refine ⟨pl, rfl, ⟨_, hpl⟩, forK_list (xs := ls.map V.int) (fun i σ H' => H' = H ∧ ∃ x : Option V, σ = [some (.ref F.y), some (.ref pl), some (.ref pr), x]) ⟨rfl, _, rfl⟩ ?_ ?_ ?_⟩
  · rintro i σ H' _ ⟨rfl, _⟩; exact hpl
  · rintro i x σ H' hx ⟨rfl, y, rfl⟩
    obtain ⟨z, hz, rfl⟩ := get_int hx
    repeat walk_at "mst"
    refine Y.meth (by decide +kernel) (by decide +kernel) (by decide +kernel) (by decide +kernel) (by decide +kernel) ?_
    repeat walk_at "mst"
    refine use_check Y (bl z (List.mem_of_getElem? hz)) ?_
    repeat walk_at "mst"
    exact ⟨rfl, _, rfl⟩
  rintro σ H' ⟨rfl, x, rfl⟩
  repeat walk_at "mst"
  refine ⟨pr, rfl, ⟨_, hpr⟩, forK_list (xs := rs.map V.int) (fun i σ H0 => H0 = H' ∧ ∃ x : Option V, σ = [some (.ref F.y), some (.ref pl), some (.ref pr), x]) ⟨rfl, _, rfl⟩ ?_ ?_ ?_⟩
  · rintro i σ H' _ ⟨rfl, _⟩; exact hpr
  · rintro i x σ H' hx ⟨rfl, y, rfl⟩
    obtain ⟨z, hz, rfl⟩ := get_int hx
    repeat walk_at "mst"
    refine Y.meth (by decide +kernel) (by decide +kernel) (by decide +kernel) (by decide +kernel) (by decide +kernel) ?_
    repeat walk_at "mst"
    refine use_check Y (br z (List.mem_of_getElem? hz)) ?_
    repeat walk_at "mst"
    exact ⟨rfl, _, rfl⟩
  rintro σ H0 ⟨rfl, x, rfl⟩
  repeat walk_at "mst"
  refine Y.meth (by decide +kernel) (by decide +kernel) (by decide +kernel) (by decide +kernel) (by decide +kernel) ?_
  repeat walk_at "mst"
  refine k_rSetL hpl (by omega) fun s1 c1 n1 l1 => ?_
  have e1 := Evl.Ex.new (o := SetO w s1 (fun j => decide (j ∈ ls)) c1) n1
  have a1 : upd H0 s1 (SetO w s1 (fun j => decide (j ∈ ls)) c1) s1 = some (SetO w s1 (fun j => decide (j ∈ ls)) c1) := upd_same
  generalize upd H0 s1 (SetO w s1 (fun j => decide (j ∈ ls)) c1) = H1 at *
  repeat walk_at "mst"
  refine k_rSorted a1 (by omega) fun as p1 asc1 mem1 len1 n2 => ?_
  have e2 := Evl.Ex.new (o := HO.lst (as.map V.int)) n2
  have a2 : upd H1 p1 (HO.lst (as.map V.int)) p1 = some (HO.lst (as.map V.int)) := upd_same
  generalize upd H1 p1 (HO.lst (as.map V.int)) = H2 at *
  repeat walk_at "mst"
  intro q1 n3
  have e3 := Evl.Ex.new (o := HO.tup (as.map V.int)) n3
  have a3 : upd H2 q1 (HO.tup (as.map V.int)) q1 = some (HO.tup (as.map V.int)) := upd_same
  generalize upd H2 q1 (HO.tup (as.map V.int)) = H3 at *
  have e03 := e1.trans (e2.trans e3)
  repeat walk_at "mst"
  refine k_rSetL (Evl.ex_l e03 hpr) (by omega) fun s2 c2 n4 l2 => ?_
  have e4 := Evl.Ex.new (o := SetO w s2 (fun j => decide (j ∈ rs)) c2) n4
  have a4 : upd H3 s2 (SetO w s2 (fun j => decide (j ∈ rs)) c2) s2 = some (SetO w s2 (fun j => decide (j ∈ rs)) c2) := upd_same
  generalize upd H3 s2 (SetO w s2 (fun j => decide (j ∈ rs)) c2) = H4 at *
  repeat walk_at "mst"
  refine k_rSorted a4 (by omega) fun bs p2 asc2 mem2 len2 n5 => ?_
  have e5 := Evl.Ex.new (o := HO.lst (bs.map V.int)) n5
  have a5 : upd H4 p2 (HO.lst (bs.map V.int)) p2 = some (HO.lst (bs.map V.int)) := upd_same
  generalize upd H4 p2 (HO.lst (bs.map V.int)) = H5 at *
  repeat walk_at "mst"
  intro q2 n6
  have e6 := Evl.Ex.new (o := HO.tup (bs.map V.int)) n6
  have a6 : upd H5 q2 (HO.tup (bs.map V.int)) q2 = some (HO.tup (bs.map V.int)) := upd_same
  generalize upd H5 q2 (HO.tup (bs.map V.int)) = H6 at *
  have e36 := e4.trans (e5.trans e6)
  have A1 : AscOf ls as := ⟨asc1, fun k => by rw [mem1]; exact decide_eq_true_iff⟩
  have A2 : AscOf rs bs := ⟨asc2, fun k => by rw [mem2]; exact decide_eq_true_iff⟩
  repeat walk_at "mst"
  refine ⟨F, G, hs, ts, q1, q2, as, bs, rfl, Y.ex (e03.trans e36), e36 _ _ a3, a6, A1.asc bl, A2.asc br, big, fun i G' hs' H' g Y' pt hg => ?_⟩
  exact q as bs i G' hs' H' A1 A2 ((Gr.of (e03.trans e36)).trans g) Y' pt hg
theorem use_game {P : Program} {w : World} {K : PySem.W.Frag} {H : Hp} {Q : VK} {E : XK} {F : Foot} {G : List Pr} {hs : List Int} {ts : List (Key × V)} {pl pr : Addr} {ls rs : List Int} (Y : YardAt P w K H F G hs ts) (h1 : SqL K H pl (ls.map V.int)) (h2 : SqL K H pr (rs.map V.int)) (b1 : ∀ x ∈ ls, 0 ≤ x ∧ x < (G.length : Int)) (b2 : ∀ x ∈ rs, 0 ≤ x ∧ x < (G.length : Int)) (few : ls.length < 64 ∧ rs.length < 64) (big : G.length ≤ 1000)
    (q : ∀ (as bs : List Int) (i : Int) (G' : List Pr) (hs' : List Int) (H' : Hp), AscOf ls as → AscOf rs bs → Gr F H H' → YardAt P w K H' F G' hs' ts → Put G (as, bs) i G' → Hgt G hs (as, bs) G' hs' → Q (.int i) H') : sp_Yard_m_game P w K (.ref F.y :: ([.ref pl, .ref pr] ++ [])) H Q E :=
  ⟨F, G, hs, ts, pl, pr, ls, rs, rfl, Y, h1, h2, b1, b2, few, big, q⟩
def sp_law_drawn (K : PySem.W.Frag) : Sp := fun vs H Q _ => ∃ (Z : Addr → Prop) (m hp dp : Addr) (G : List Pr) (hts ds : List Int) (most : Int), vs = [.ref m, .ref hp, .ref dp, .int most] ∧ ModAt Z H m G ∧ H hp = some (.lst (hts.map V.int)) ∧ hts.length = G.length ∧ hat hts 0 = 0 ∧ 0 < most ∧
  SqL K H dp (ds.map V.int) ∧ 12 ≤ ds.length ∧ (∀ d ∈ ds, 0 ≤ d ∧ d < 60) ∧ Forms G ∧ G.length ≤ 1000 ∧ (∀ c, Z c → H c ≠ none) ∧
  ∀ (t p1 p2 : Addr) (ls rs : List Int) (H' : Hp), Ex H H' → H' t = some (.tup [.ref p1, .ref p2]) → H' p1 = some (.lst (ls.map V.int)) → H' p2 = some (.lst (rs.map V.int)) → ¬ Z p1 → ¬ Z p2 → (∀ x ∈ ls, 0 ≤ x ∧ x < (G.length : Int)) → (∀ x ∈ rs, 0 ≤ x ∧ x < (G.length : Int)) → ls.length ≤ G.length + 4 → rs.length ≤ G.length + 4 → Q (.ref t) H'
abbrev N_law_drawn : List Str := ["model", "heights", "digits", "most", "pool", "k", "lefts", "rights", "base"]
def t_law_drawn (K : PySem.W.Frag) (E : XK) : TS := (tSeq (tAsg (tLc (iRng1 (tCons (tCB (rLenQ K) (tCons (tVar 0) tNil)) tNil)) (gName 5) (tTest (tOp rLtI (tOp (rIxL K) (tVar 1) (tVar 5)) (tVar 3))) (tVar 5) [5]) (gName 4)) (Evl.tCut (tIfS (tTest (tOp rEq (tOp rModI (tCB rIntI (tCons (tOp (rIxL K) (tVar 2) (tC (.int 10))) tNil)) (tC (.int 3))) (tC (.int 1)))) (tAsg (tSl (rSlL K) (tVar 4) (tPart (tUn rNegI (tC (.int 3)))) tNoPart) (gName 4)) tNext) (tSeq (tAsg (tLc (iRng1 (tCons (tOp rModI (tCB rIntI (tCons (tOp (rIxL K) (tVar 2) (tC (.int 0))) tNil)) (tC (.int 5))) tNil)) (gName 5) tYes (tOp (rIxL K) (tVar 4) (tOp rModI (tCB rIntI (tCons (tOp (rIxL K) (tVar 2) (tOp rAddI (tC (.int 1)) (tVar 5))) tNil)) (tCB (rLenQ K) (tCons (tVar 4) tNil)))) [5]) (gName 6)) (tSeq (tAsg (tLc (iRng1 (tCons (tOp rModI (tCB rIntI (tCons (tOp (rIxL K) (tVar 2) (tC (.int 5))) tNil)) (tC (.int 5))) tNil)) (gName 5) tYes (tOp (rIxL K) (tVar 4) (tOp rModI (tCB rIntI (tCons (tOp (rIxL K) (tVar 2) (tOp rAddI (tC (.int 6)) (tVar 5))) tNil)) (tCB (rLenQ K) (tCons (tVar 4) tNil)))) [5]) (gName 7)) (tSeq (tAsg (tOp (rIxL K) (tVar 0) (tOp rModI (tCB rIntI (tCons (tOp (rIxL K) (tVar 2) (tC (.int 11))) tNil)) (tCB (rLenQ K) (tCons (tVar 0) tNil)))) (gName 8)) (tSeq (tIfS (tTest (tOp rEq (tOp rModI (tOp rDivI (tOp (rIxL K) (tVar 2) (tC (.int 10))) (tC (.int 3))) (tC (.int 4))) (tC (.int 1)))) (tRet (tTup (tCons (tSl (rSlL K) (tOp rCat (tOp (rIxT K) (tVar 8) (tC (.int 0))) (tSl (rSlL K) (tVar 6) tNoPart (tPart (tC (.int 1))))) (tPart (tUn rNegI (tC (.int 4)))) tNoPart) (tCons (tOp (rIxT K) (tVar 8) (tC (.int 1))) tNil)))) tNext) (tSeq (tIfS (tTest (tOp rEq (tOp rModI (tOp rDivI (tOp (rIxL K) (tVar 2) (tC (.int 10))) (tC (.int 3))) (tC (.int 4))) (tC (.int 2)))) (tRet (tTup (tCons (tOp (rIxT K) (tVar 8) (tC (.int 0))) (tCons (tSl (rSlL K) (tOp rCat (tOp (rIxT K) (tVar 8) (tC (.int 1))) (tSl (rSlL K) (tVar 7) tNoPart (tPart (tC (.int 1))))) (tPart (tUn rNegI (tC (.int 4)))) tNoPart) tNil)))) tNext) (tRet (tTup (tCons (tVar 6) (tCons (tVar 7) tNil)))))))))))
theorem len_law_drawn {K : PySem.W.Frag} {vs : List V} {H : Hp} {Q : VK} {E : XK} (h : sp_law_drawn K vs H Q E) : vs.length = 4 := by
  obtain ⟨_, _, _, _, _, _, _, _, rfl, _⟩ := h; rfl
theorem range_mem {n : Nat} {f : Nat → Int} {ps : List Int} (h : ∀ i, i < n → f i ∈ ps) : ∀ x ∈ (List.range n).map f, x ∈ ps := by
  intro x m
  obtain ⟨i, hi, rfl⟩ := List.mem_map.mp m
  exact h i (List.mem_range.mp hi)
theorem pick_mem {ps : List Int} (ne : ps ≠ []) (d : Int) : ps.getD (d % (ps.length : Int)).toNat 0 ∈ ps ∧ atI (ps.map V.int) (d % (ps.length : Int)) = some (V.int (ps.getD (d % (ps.length : Int)).toNat 0)) := by
  have hl : 0 < ps.length := List.length_pos_iff.mpr ne
  obtain ⟨z, m, e, f⟩ := atI_in (ls := ps) (k := d % (ps.length : Int)) (Int.emod_nonneg _ (by omega)) (Int.emod_lt_of_pos _ (by omega))
  rw [← f]
  exact ⟨m, e⟩
theorem pure_law_drawn {K : PySem.W.Frag} (vs : List V) (H : Hp) (Q : VK) (E : XK) (h : sp_law_drawn K vs H Q E) : t_law_drawn K E { nx := fun _ H' => Q .non H', rt := Q } (start N_law_drawn vs) H := by
  obtain ⟨Z, m, hp, dp, G, hts, ds, most, rfl, M, hh, hlen, h00, m0, hd, dl, db, FG, big, alive, q⟩ := h
  obtain ⟨xs, hm, fs⟩ := M
  have xl : xs.length = G.length := fs.1
  have g0 : 0 < G.length := (List.getElem?_eq_some_iff.mp FG.zero).1
  have small : G.length < sizeLine := Nat.lt_of_le_of_lt big (by decide)
  unfold t_law_drawn
  repeat walk_at "mst"
  refine ⟨_, rfl, by omega, by omega, ?_⟩
  rw [Int.toNat_natCast, xl]
  refine lcR_rng (fun i => if decide (hat hts (i : Int) < most) = true then some (V.int i) else none) small (fun i hi => ?_) fun D1 H1 nD1 e1 hD1 => ?_
  · refine turn_flt fun H' e R r => ?_
    have hh' := e _ _ hh
    repeat walk_at "mst"
    refine k_ixL (k_sq hh') (hat_at hlen (by omega) (by omega)) ?_
    repeat walk_at "mst"
    exact r
  rw [kept_map] at hD1
  have nz0 : kept G.length (fun i => decide (hat hts (i : Int) < most)) ≠ [] := by
    have : (0 : Int) ∈ kept G.length (fun i => decide (hat hts (i : Int) < most)) := mem_kept.mpr ⟨0, rfl, g0, decide_eq_true (by show hat hts 0 < most; rw [h00]; exact m0)⟩
    intro z; rw [z] at this; cases this
  have bd0 : ∀ x ∈ kept G.length (fun i => decide (hat hts (i : Int) < most)), 0 ≤ x ∧ x < (G.length : Int) := (kept_asc _ _).2
  generalize kept G.length (fun i => decide (hat hts (i : Int) < most)) = ps0 at *
  have hd1 := Evl.ex_l e1 hd
  repeat walk_at "mst"
  refine k_cut (fun σ' H' => ∃ (pp : Addr) (ps : List Int), Ex H H' ∧ H' pp = some (.lst (ps.map V.int)) ∧ ps ≠ [] ∧ (∀ x ∈ ps, 0 ≤ x ∧ x < (G.length : Int)) ∧ σ' = [some (.ref m), some (.ref hp), some (.ref dp), some (.int most), some (.ref pp), none, none, none, none]) ?_ ?_
  · obtain ⟨d10, a10, b10, _⟩ := dg_of db (k := 10) (by omega) (by omega)
    repeat walk_at "mst"
    refine k_ixL hd1 a10 ?_
    repeat walk_at "mst"
    refine k_iteD (fun _ => ?_) (fun _ => ?_)
    · repeat walk_at "mst"
      obtain ⟨l', el, ml, nl⟩ := cut_last nz0
      refine k_slL (k_sq hD1) fun p np => ?_
      rw [el]
      have e2 := Evl.Ex.new (o := HO.lst (l'.map V.int)) np
      have s2 : upd H1 p (HO.lst (l'.map V.int)) p = some (HO.lst (l'.map V.int)) := upd_same
      repeat walk_at "mst"
      exact ⟨p, l', e1.trans e2, s2, nl, fun x mx => bd0 x (ml x mx), rfl⟩
    · repeat walk_at "mst"
      exact ⟨D1, ps0, e1, hD1, nz0, bd0, rfl⟩
  rintro σ' H2 ⟨pp, ps, e2, hpp, ne, bd, rfl⟩
  have hd2 := Evl.ex_l e2 hd
  obtain ⟨d0, a0, b0, _⟩ := dg_of db (k := 0) (by omega) (by omega)
  obtain ⟨d5, a5, b5, _⟩ := dg_of db (k := 5) (by omega) (by omega)
  obtain ⟨d11, a11, b11, _⟩ := dg_of db (k := 11) (by omega) (by omega)
  obtain ⟨d10, a10, b10, _⟩ := dg_of db (k := 10) (by omega) (by omega)
  have pl : 0 < ps.length := List.length_pos_iff.mpr ne
  repeat walk_at "mst"
  refine k_ixL hd2 a0 ?_
  repeat walk_at "mst"
  refine ⟨_, rfl, by omega, by omega, lcR_rng (n := (d0 % 5).toNat) (fun i => some (V.int (ps.getD (ds.getD (1 + (i : Int)).toNat 0 % (ps.length : Int)).toNat 0))) (Nat.lt_of_le_of_lt (show _ ≤ 10 by omega) (by decide)) (fun i hi => ?_) fun D3 H3 nD3 e3 hD3 => ?_⟩
  · refine turn_map fun H' e R r => ?_
    have hd' := Evl.ex_l e hd2
    have hpp' := e _ _ hpp
    obtain ⟨z, az, bz, ez⟩ := dg_of db (k := 1 + (i : Int)) (by omega) (by omega)
    obtain ⟨_, pick⟩ := pick_mem ne z
    rw [← ez] at r
    repeat walk_at "mst"
    refine k_ixL hd' az ?_
    repeat walk_at "mst"
    rw [List.length_map]
    repeat walk_at "mst"
    exact k_ixL (k_sq hpp') pick r
  rw [rng_map] at hD3
  have ml : ∀ x ∈ (List.range (d0 % 5).toNat).map (fun i : Nat => ps.getD (ds.getD (1 + (i : Int)).toNat 0 % (ps.length : Int)).toNat 0), 0 ≤ x ∧ x < (G.length : Int) := fun x mx => bd x (range_mem (fun i _ => (pick_mem ne _).1) x mx)
  have ll : ((List.range (d0 % 5).toNat).map (fun i : Nat => ps.getD (ds.getD (1 + (i : Int)).toNat 0 % (ps.length : Int)).toNat 0)).length ≤ 4 := by rw [List.length_map, List.length_range]; omega
  generalize (List.range (d0 % 5).toNat).map (fun i : Nat => ps.getD (ds.getD (1 + (i : Int)).toNat 0 % (ps.length : Int)).toNat 0) = ls at *
  have hd3 := Evl.ex_l e3 hd2
  have hpp3 := e3 _ _ hpp
  repeat walk_at "mst"
  refine k_ixL hd3 a5 ?_
  repeat walk_at "mst"
  refine ⟨_, rfl, by omega, by omega, lcR_rng (n := (d5 % 5).toNat) (fun i => some (V.int (ps.getD (ds.getD (6 + (i : Int)).toNat 0 % (ps.length : Int)).toNat 0))) (Nat.lt_of_le_of_lt (show _ ≤ 10 by omega) (by decide)) (fun i hi => ?_) fun D4 H4 nD4 e4 hD4 => ?_⟩
  · refine turn_map fun H' e R r => ?_
    have hd' := Evl.ex_l e hd3
    have hpp' := e _ _ hpp3
    obtain ⟨z, az, bz, ez⟩ := dg_of db (k := 6 + (i : Int)) (by omega) (by omega)
    obtain ⟨_, pick⟩ := pick_mem ne z
    rw [← ez] at r
    repeat walk_at "mst"
    refine k_ixL hd' az ?_
    repeat walk_at "mst"
    rw [List.length_map]
    repeat walk_at "mst"
    exact k_ixL (k_sq hpp') pick r
  rw [rng_map] at hD4
  have mr : ∀ x ∈ (List.range (d5 % 5).toNat).map (fun i : Nat => ps.getD (ds.getD (6 + (i : Int)).toNat 0 % (ps.length : Int)).toNat 0), 0 ≤ x ∧ x < (G.length : Int) := fun x mx => bd x (range_mem (fun i _ => (pick_mem ne _).1) x mx)
  have lr : ((List.range (d5 % 5).toNat).map (fun i : Nat => ps.getD (ds.getD (6 + (i : Int)).toNat 0 % (ps.length : Int)).toNat 0)).length ≤ 4 := by rw [List.length_map, List.length_range]; omega
  generalize (List.range (d5 % 5).toNat).map (fun i : Nat => ps.getD (ds.getD (6 + (i : Int)).toNat 0 % (ps.length : Int)).toNat 0) = rs at *
  have hd4 := Evl.ex_l e4 hd3
  have e24 := e3.trans e4
  have e04 := e2.trans e24
  have hm4 := e04 _ _ hm
  have fs4 := fs.ex e04
  have hD34 := e4 _ _ hD3
  have fr : ∀ c H', Ex H H' → H' c = none → ¬ Z c := fun c H' e n z => by
    cases y : H c with
    | none => exact alive c z y
    | some o => rw [e _ _ y] at n; cases n
  have zD3 : ¬ Z D3 := fr D3 H2 e2 nD3
  have zD4 : ¬ Z D4 := fr D4 H3 (e2.trans e3) nD4
  repeat walk_at "mst"
  refine k_ixL hd4 a11 ?_
  repeat walk_at "mst"
  have hj : (d11 % (xs.length : Int)).toNat < G.length := by
    have h1 := Int.emod_nonneg d11 (show (xs.length : Int) ≠ 0 by omega)
    have h2 := Int.emod_lt_of_pos d11 (show (0 : Int) < (xs.length : Int) by omega)
    omega
  have ej : d11 % (xs.length : Int) = (((d11 % (xs.length : Int)).toNat : Nat) : Int) := by
    have h1 := Int.emod_nonneg d11 (show (xs.length : Int) ≠ 0 by omega)
    omega
  obtain ⟨ba, hba, fb⟩ := fs4.2 _ G[(d11 % (xs.length : Int)).toNat] (List.getElem?_eq_getElem hj)
  have as := FG.asc _ _ (List.getElem?_eq_getElem hj)
  generalize G[(d11 % (xs.length : Int)).toNat] = g at *
  refine k_ixL (k_sq hm4) (by rw [ej]; exact atI_nat hba) ?_
  obtain ⟨c, d, hb, hc, hdd, zc, zd⟩ := fb
  have as1 := as.1.up (Nat.le_of_lt hj)
  have as2 := as.2.up (Nat.le_of_lt hj)
  have l1 := as1.len
  have l2 := as2.len
  repeat walk_at "mst"
  refine k_ixL hd4 a10 ?_
  repeat walk_at "mst"
  refine k_iteD (fun _ => ?_) (fun _ => ?_)
  · repeat walk_at "mst"
    obtain ⟨l', el, mm, nn⟩ := cut_ints ls none (some 1)
    refine k_slL (k_sq hD34) fun p np => ?_
    rw [el]
    have e5 := Evl.Ex.new (o := HO.lst (l'.map V.int)) np
    have s5 : upd H4 p (HO.lst (l'.map V.int)) p = some (HO.lst (l'.map V.int)) := upd_same
    generalize upd H4 p (HO.lst (l'.map V.int)) = H5 at *
    repeat walk_at "mst"
    refine k_rCat (e5 _ _ hc) s5 (by rw [List.length_map, List.length_map]; exact Nat.le_trans (show _ ≤ 2000 by omega) (by decide)) fun u nu => ?_
    rw [← List.map_append]
    have e6 := Evl.Ex.new (o := HO.lst ((g.1 ++ l').map V.int)) nu
    have s6 : upd H5 u (HO.lst ((g.1 ++ l').map V.int)) u = some (HO.lst ((g.1 ++ l').map V.int)) := upd_same
    generalize upd H5 u (HO.lst ((g.1 ++ l').map V.int)) = H6 at *
    repeat walk_at "mst"
    obtain ⟨l2', el2, mm2, nn2⟩ := cut_ints (g.1 ++ l') (some (-4)) none
    refine k_slL (k_sq s6) fun v nv => ?_
    rw [el2]
    have e7 := Evl.Ex.new (o := HO.lst (l2'.map V.int)) nv
    have s7 : upd H6 v (HO.lst (l2'.map V.int)) v = some (HO.lst (l2'.map V.int)) := upd_same
    generalize upd H6 v (HO.lst (l2'.map V.int)) = H7 at *
    have e47 := e5.trans (e6.trans e7)
    have hb7 := e47 _ _ hb
    repeat walk_at "mst"
    refine ⟨by show 2 ≤ sizeLine; decide, fun t nt => ?_⟩
    have e8 := Evl.Ex.new (o := HO.tup [V.ref v, V.ref d]) nt
    have s8 : upd H7 t (HO.tup [V.ref v, V.ref d]) t = some (HO.tup [V.ref v, V.ref d]) := upd_same
    generalize upd H7 t (HO.tup [V.ref v, V.ref d]) = H8 at *
    refine q t v d l2' g.2 H8 (e04.trans (e47.trans e8)) s8 (e8 _ _ s7) (e8 _ _ (e47 _ _ hdd)) (fr v H6 (e04.trans (e5.trans e6)) nv) zd (fun x mx => ?_) as2.2 (by rw [List.length_append] at nn2; omega) (by omega)
    rcases List.mem_append.mp (mm2 x mx) with h | h
    · exact as1.2 x h
    · exact ml x (mm x h)
  · repeat walk_at "mst"
    refine k_ixL hd4 a10 ?_
    repeat walk_at "mst"
    refine k_iteD (fun _ => ?_) (fun _ => ?_)
    · repeat walk_at "mst"
      obtain ⟨l', el, mm, nn⟩ := cut_ints rs none (some 1)
      refine k_slL (k_sq hD4) fun p np => ?_
      rw [el]
      have e5 := Evl.Ex.new (o := HO.lst (l'.map V.int)) np
      have s5 : upd H4 p (HO.lst (l'.map V.int)) p = some (HO.lst (l'.map V.int)) := upd_same
      generalize upd H4 p (HO.lst (l'.map V.int)) = H5 at *
      repeat walk_at "mst"
      refine k_rCat (e5 _ _ hdd) s5 (by rw [List.length_map, List.length_map]; exact Nat.le_trans (show _ ≤ 2000 by omega) (by decide)) fun u nu => ?_
      rw [← List.map_append]
      have e6 := Evl.Ex.new (o := HO.lst ((g.2 ++ l').map V.int)) nu
      have s6 : upd H5 u (HO.lst ((g.2 ++ l').map V.int)) u = some (HO.lst ((g.2 ++ l').map V.int)) := upd_same
      generalize upd H5 u (HO.lst ((g.2 ++ l').map V.int)) = H6 at *
      repeat walk_at "mst"
      obtain ⟨l2', el2, mm2, nn2⟩ := cut_ints (g.2 ++ l') (some (-4)) none
      refine k_slL (k_sq s6) fun v nv => ?_
      rw [el2]
      have e7 := Evl.Ex.new (o := HO.lst (l2'.map V.int)) nv
      have s7 : upd H6 v (HO.lst (l2'.map V.int)) v = some (HO.lst (l2'.map V.int)) := upd_same
      generalize upd H6 v (HO.lst (l2'.map V.int)) = H7 at *
      have e47 := e5.trans (e6.trans e7)
      repeat walk_at "mst"
      refine ⟨by show 2 ≤ sizeLine; decide, fun t nt => ?_⟩
      have e8 := Evl.Ex.new (o := HO.tup [V.ref c, V.ref v]) nt
      have s8 : upd H7 t (HO.tup [V.ref c, V.ref v]) t = some (HO.tup [V.ref c, V.ref v]) := upd_same
      generalize upd H7 t (HO.tup [V.ref c, V.ref v]) = H8 at *
      refine q t c v g.1 l2' H8 (e04.trans (e47.trans e8)) s8 (e8 _ _ (e47 _ _ hc)) (e8 _ _ s7) zc (fr v H6 (e04.trans (e5.trans e6)) nv) as1.2 (fun x mx => ?_) (by omega) (by rw [List.length_append] at nn2; omega)
      rcases List.mem_append.mp (mm2 x mx) with h | h
      · exact as2.2 x h
      · exact mr x (mm x h)
    · repeat walk_at "mst"
      refine ⟨by show 2 ≤ sizeLine; decide, fun t nt => ?_⟩
      have e8 := Evl.Ex.new (o := HO.tup [V.ref D3, V.ref D4]) nt
      have s8 : upd H4 t (HO.tup [V.ref D3, V.ref D4]) t = some (HO.tup [V.ref D3, V.ref D4]) := upd_same
      generalize upd H4 t (HO.tup [V.ref D3, V.ref D4]) = H8 at *
      exact q t D3 D4 ls rs H8 (e04.trans e8) s8 (e8 _ _ hD34) (e8 _ _ hD4) zD3 zD4 ml mr (by omega) (by omega)
theorem use_drawn {K : PySem.W.Frag} {H : Hp} {Q : VK} {E : XK} {Z : Addr → Prop} {m hp dp : Addr} {G : List Pr} {hts ds : List Int} {most : Int} (M : ModAt Z H m G) (hh : H hp = some (.lst (hts.map V.int))) (hl : hts.length = G.length) (h0 : hat hts 0 = 0) (m0 : 0 < most)
    (hd : SqL K H dp (ds.map V.int)) (dl : 12 ≤ ds.length) (db : ∀ d ∈ ds, 0 ≤ d ∧ d < 60) (F : Forms G) (big : G.length ≤ 1000) (alive : ∀ c, Z c → H c ≠ none)
    (q : ∀ (t p1 p2 : Addr) (ls rs : List Int) (H' : Hp), Ex H H' → H' t = some (.tup [.ref p1, .ref p2]) → H' p1 = some (.lst (ls.map V.int)) → H' p2 = some (.lst (rs.map V.int)) → ¬ Z p1 → ¬ Z p2 → (∀ x ∈ ls, 0 ≤ x ∧ x < (G.length : Int)) → (∀ x ∈ rs, 0 ≤ x ∧ x < (G.length : Int)) → ls.length ≤ G.length + 4 → rs.length ≤ G.length + 4 → Q (.ref t) H') :
    sp_law_drawn K ([.ref m, .ref hp, .ref dp, .int most] ++ []) H Q E := ⟨Z, m, hp, dp, G, hts, ds, most, rfl, M, hh, hl, h0, m0, hd, dl, db, F, big, alive, q⟩
def sp_law_digits (K : PySem.W.Frag) : Sp := spR (fun vs H => ∃ (c n : Int), vs = [.int c, .int n] ∧ 0 ≤ n ∧ n ≤ 1000)
  (fun vs H v H' => ∃ (c n : Int) (p : Addr) (ds : List Int), vs = [.int c, .int n] ∧ v = .ref p ∧ H p = none ∧ Ex H H' ∧ H' p = some (.lst (ds.map V.int)) ∧ (ds.length : Int) = n ∧ ∀ d ∈ ds, 0 ≤ d ∧ d < 60)
abbrev N_law_digits : List Str := ["cell", "count", "row", "k", "seed"]
def t_law_digits (K : PySem.W.Frag) (E : XK) : TS := (tSeq (tAsg (tLst tNil) (gName 2)) (tSeq (tIfS (tTest (tOp rGeI (tVar 0) (tOp rPowI (tC (.int 10)) (tC (.int 18))))) (tSeq (tFor (iRng1 (tCons (tVar 1) tNil)) (gName 3) (tSeq (tDrop (tBM K "list" rAppend (tVar 2) (tCons (tOp rModI (tCB rIntI (tCons (tVar 0) tNil)) (tC (.int 60))) tNil))) (tAsg (tOp rDivI (tVar 0) (tC (.int 60))) (gName 0)))) (tRet (tVar 2))) tNext) (tSeq (tAsg (tOp rModI (tCB rIntI (tCons (tOp rAddI (tOp rMulI (tVar 0) (tC (.int 48271))) (tC (.int 11))) tNil)) (tC (.int 2147483647))) (gName 4)) (tSeq (tFor (iRng1 (tCons (tVar 1) tNil)) (gName 3) (tSeq (tAsg (tOp rModI (tCB rIntI (tCons (tOp rAddI (tOp rAddI (tOp rMulI (tVar 4) (tC (.int 69621))) (tOp rMulI (tC (.int 7)) (tVar 3))) (tC (.int 1))) tNil)) (tC (.int 2147483629))) (gName 4)) (tDrop (tBM K "list" rAppend (tVar 2) (tCons (tOp rModI (tCB rIntI (tCons (tOp rDivI (tVar 4) (tC (.int 64))) tNil)) (tC (.int 60))) tNil))))) (tRet (tVar 2))))))
theorem len_law_digits {K : PySem.W.Frag} {vs : List V} {H : Hp} {Q : VK} {E : XK} (h : sp_law_digits K vs H Q E) : vs.length = 2 := by
  obtain ⟨⟨_, _, rfl, _⟩, _⟩ := h; rfl
theorem dg_more {ds : List Int} {z : Int} (h : ∀ d ∈ ds, 0 ≤ d ∧ d < 60) (hz : 0 ≤ z ∧ z < 60) : ∀ d ∈ ds ++ [z], 0 ≤ d ∧ d < 60 := by
  intro d hd
  rcases List.mem_append.mp hd with m | m
  · exact h d m
  · rw [List.mem_singleton.mp m]; exact hz
theorem map_more (ds : List Int) (z : Int) : ds.map V.int ++ [V.int z] = (ds ++ [z]).map V.int := by simp
theorem pure_law_digits {K : PySem.W.Frag} (vs : List V) (H : Hp) (Q : VK) (E : XK) (h : sp_law_digits K vs H Q E) : t_law_digits K E { nx := fun _ H' => Q .non H', rt := Q } (start N_law_digits vs) H := by
  obtain ⟨⟨c, n, rfl, h0, h1⟩, q⟩ := h
  unfold t_law_digits
  repeat walk_at "mst"
  refine ⟨by show 0 ≤ sizeLine; decide, fun p hp => ?_⟩
  repeat walk_at "mst"
  refine k_iteD (fun hc => ?_) (fun hc => ?_)
  · repeat walk_at "mst"
    refine ⟨_, rfl, by omega, by omega, forK_range (fun i σ H' => Ex H H' ∧ ∃ (ds : List Int) (m : Int) (v w : Option V), H' p = some (.lst (ds.map V.int)) ∧ ds.length = i ∧ (∀ d ∈ ds, 0 ≤ d ∧ d < 60) ∧ σ = [some (.int m), some (.int n), some (.ref p), v, w]) ?_ ?_ ?_⟩
    · exact ⟨Evl.Ex.new hp, [], c, none, none, upd_same, rfl, by simp, rfl⟩
    · rintro i σ H' hi ⟨e, ds, m, v, w, hl, hn, hd, rfl⟩
      repeat walk_at "mst"
      · exact k_sizeL (by omega)
      repeat walk_at "mst"
      exact ⟨Evl.Ex.mut e hp, ds ++ [m % 60], _, _, _, by rw [upd_same, map_more], by simp [hn], dg_more hd ⟨by omega, by omega⟩, rfl⟩
    · rintro σ H' ⟨e, ds, m, v, w, hl, hn, hd, rfl⟩
      repeat walk_at "mst"
      exact q _ _ ⟨c, n, p, ds, rfl, rfl, hp, e, hl, by omega, hd⟩
  · repeat walk_at "mst"
    refine ⟨_, rfl, by omega, by omega, forK_range (fun i σ H' => Ex H H' ∧ ∃ (ds : List Int) (m : Int) (v : Option V), H' p = some (.lst (ds.map V.int)) ∧ ds.length = i ∧ (∀ d ∈ ds, 0 ≤ d ∧ d < 60) ∧ σ = [some (.int c), some (.int n), some (.ref p), v, some (.int m)]) ?_ ?_ ?_⟩
    · exact ⟨Evl.Ex.new hp, [], _, _, upd_same, rfl, by simp, rfl⟩
    · rintro i σ H' hi ⟨e, ds, m, v, hl, hn, hd, rfl⟩
      repeat walk_at "mst"
      · exact k_sizeL (by omega)
      repeat walk_at "mst"
      exact ⟨Evl.Ex.mut e hp, ds ++ [_], _, _, by rw [upd_same, map_more], by simp [hn], dg_more hd ⟨by omega, by omega⟩, rfl⟩
    · rintro σ H' ⟨e, ds, m, v, hl, hn, hd, rfl⟩
      repeat walk_at "mst"
      exact q _ _ ⟨c, n, p, ds, rfl, rfl, hp, e, hl, by omega, hd⟩
theorem use_digits {K : PySem.W.Frag} {H : Hp} {Q : VK} {E : XK} {c n : Int} (h : 0 ≤ n ∧ n ≤ 1000) (q : ∀ (p : Addr) (ds : List Int) (H' : Hp), H p = none → Ex H H' → H' p = some (.lst (ds.map V.int)) → (ds.length : Int) = n → (∀ d ∈ ds, 0 ≤ d ∧ d < 60) → Q (.ref p) H') : sp_law_digits K ([.int c, .int n] ++ []) H Q E := by
  refine ⟨⟨c, n, rfl, h.1, h.2⟩, ?_⟩
  rintro v H' ⟨c', n', p, ds, e, rfl, h1, h2, h3, h4, h5⟩
  cases e
  exact q p ds H' h1 h2 h3 h4 h5
def sp_law_cell (K : PySem.W.Frag) : Sp := fun vs H Q _ => ∃ (a : Addr) (ns : List Int) (k : Int), vs = [.ref a, .int k] ∧ SqL K H a (ns.map V.int) ∧ 0 ≤ k ∧ ∀ i, (i ∈ ns ∨ (0 ≤ i ∧ i < 2147483647) ∨ i = 104729 * k + 7) → Q (.int i) H
abbrev N_law_cell : List Str := ["script", "k", "mixed", "cell"]
def t_law_cell (K : PySem.W.Frag) (E : XK) : TS := (tSeq (tIfS (tTest (tOp rLtI (tVar 1) (tCB (rLenQ K) (tCons (tVar 0) tNil)))) (tRet (tOp (rIxL K) (tVar 0) (tVar 1))) tNext) (tSeq (tAsg (tOp rAddI (tOp rMulI (tC (.int 104729)) (tVar 1)) (tC (.int 7))) (gName 2)) (tSeq (tFor (iList K (tVar 0)) (gName 3) (tAsg (tOp rModI (tCB rIntI (tCons (tOp rAddI (tOp rMulI (tVar 2) (tC (.int 31))) (tVar 3)) tNil)) (tC (.int 2147483647))) (gName 2))) (tRet (tVar 2)))))
theorem len_law_cell {K : PySem.W.Frag} {vs : List V} {H : Hp} {Q : VK} {E : XK} (h : sp_law_cell K vs H Q E) : vs.length = 2 := by
  obtain ⟨_, _, _, rfl, _⟩ := h; rfl
theorem pure_law_cell {K : PySem.W.Frag} (vs : List V) (H : Hp) (Q : VK) (E : XK) (h : sp_law_cell K vs H Q E) : t_law_cell K E { nx := fun _ H' => Q .non H', rt := Q } (start N_law_cell vs) H := by
  obtain ⟨a, ns, k, rfl, hS, hk, q⟩ := h
  unfold t_law_cell
  repeat walk_at "mst"
  refine k_iteD (fun hc => ?_) (fun hc => ?_)
  · rw [List.length_map] at hc
    obtain ⟨z, mz, hz⟩ := at_int hk hc
    repeat walk_at "mst"
    exact k_ixL hS hz (q _ (Or.inl (List.mem_of_getElem? mz)))
  · repeat walk_at "mst"
    refine ⟨a, rfl, ⟨_, hS⟩, forK_list (xs := ns.map V.int) (fun i σ H' => H' = H ∧ ∃ (m : Int) (v : Option V), ((0 ≤ m ∧ m < 2147483647) ∨ m = 104729 * k + 7) ∧ σ = [some (.ref a), some (.int k), some (.int m), v]) ⟨rfl, _, _, Or.inr rfl, rfl⟩ ?_ ?_ ?_⟩
    · rintro i σ H' _ ⟨rfl, _⟩; exact hS
    · rintro i x σ H' hx ⟨rfl, m, v, _, rfl⟩
      obtain ⟨z, _, rfl⟩ := get_int hx
      repeat walk_at "mst"
      exact ⟨rfl, _, _, Or.inl ⟨by omega, by omega⟩, rfl⟩
    · rintro σ H' ⟨rfl, m, v, b, rfl⟩
      repeat walk_at "mst"
      exact q _ (Or.inr b)
theorem use_cellB {K : PySem.W.Frag} {H : Hp} {Q : VK} {E : XK} {a : Addr} {ns : List Int} {k : Int} (h : SqL K H a (ns.map V.int)) (h0 : 0 ≤ k) (q : ∀ i, (i ∈ ns ∨ (0 ≤ i ∧ i < 2147483647) ∨ i = 104729 * k + 7) → Q (.int i) H) : sp_law_cell K ([.ref a, .int k] ++ []) H Q E := ⟨a, ns, k, rfl, h, h0, q⟩
theorem use_cell {K : PySem.W.Frag} {H : Hp} {Q : VK} {E : XK} {a : Addr} {ns : List Int} {k : Int} (h : SqL K H a (ns.map V.int)) (h0 : 0 ≤ k) (q : ∀ i, Q (.int i) H) : sp_law_cell K ([.ref a, .int k] ++ []) H Q E := ⟨a, ns, k, rfl, h, h0, fun i _ => q i⟩
def sp_law_put (K : PySem.W.Frag) : Sp := fun vs H Q _ => ∃ (Z : Addr → Prop) (m hp pl pr : Addr) (G : List Pr) (hts ls rs : List Int), vs = [.ref m, .ref hp, .ref pl, .ref pr] ∧ ModAt Z H m G ∧ H hp = some (.lst (hts.map V.int)) ∧ hts.length = G.length ∧ Z m ∧ Z hp ∧ (∀ c, Z c → H c ≠ none) ∧
  SqL K H pl (ls.map V.int) ∧ SqL K H pr (rs.map V.int) ∧ (∀ x ∈ ls, 0 ≤ x ∧ x < G.length) ∧ (∀ x ∈ rs, 0 ≤ x ∧ x < G.length) ∧ m ≠ hp ∧ G.length ≤ 1000 ∧
  ∀ (as bs : List Int) (i : Int) (G' : List Pr) (hts' : List Int) (H' : Hp), AscOf ls as → AscOf rs bs → (∀ c o, H c = some o → c ≠ m → c ≠ hp → H' c = some o) → ModAt Z H' m G' → H' hp = some (.lst (hts'.map V.int)) → hts'.length = G'.length → Put G (as, bs) i G' → HgtL G hts (as, bs) hts' → Q (.int i) H'
abbrev N_law_put : List Str := ["model", "heights", "lefts", "rights", "form", "k"]
def t_law_put (K : PySem.W.Frag) (E : XK) : TS := (tSeq (tAsg (tTup (tCons (tLc (iRng1 (tCons (tCB (rLenQ K) (tCons (tVar 0) tNil)) tNil)) (gName 5) (tTest (tOp (rIn K false) (tVar 5) (tVar 2))) (tVar 5) [5]) (tCons (tLc (iRng1 (tCons (tCB (rLenQ K) (tCons (tVar 0) tNil)) tNil)) (gName 5) (tTest (tOp (rIn K false) (tVar 5) (tVar 3))) (tVar 5) [5]) tNil))) (gName 4)) (tSeq (tFor (iRng1 (tCons (tCB (rLenQ K) (tCons (tVar 0) tNil)) tNil)) (gName 5) (tIfS (tTest (tOp (rEqD K) (tOp (rIxL K) (tVar 0) (tVar 5)) (tVar 4))) (tRet (tVar 5)) tNext)) (tSeq (tDrop (tBM K "list" rAppend (tVar 0) (tCons (tVar 4) tNil))) (tSeq (tDrop (tBM K "list" rAppend (tVar 1) (tCons (tCB (rMax K) (tCons (tOp rCat (tLst (tCons (tC (.int 0)) tNil)) (tLc (iList K (tOp rCat (tOp (rIxT K) (tVar 4) (tC (.int 0))) (tOp (rIxT K) (tVar 4) (tC (.int 1))))) (gName 5) tYes (tOp rAddI (tC (.int 1)) (tOp (rIxL K) (tVar 1) (tVar 5))) [5])) tNil)) tNil))) (tRet (tOp rSubI (tCB (rLenQ K) (tCons (tVar 0) tNil)) (tC (.int 1))))))))
theorem len_law_put {K : PySem.W.Frag} {vs : List V} {H : Hp} {Q : VK} {E : XK} (h : sp_law_put K vs H Q E) : vs.length = 4 := by
  obtain ⟨_, _, _, _, _, _, _, _, _, rfl, _⟩ := h; rfl
theorem FormsAt.snoc {Z : Addr → Prop} {H : Hp} {xs : List V} {G : List Pr} (f : FormsAt Z H xs G) {a : Addr} {g : Pr} (h : FormAt Z H a g) : FormsAt Z H (xs ++ [.ref a]) (G ++ [g]) := by
  refine ⟨by rw [List.length_append, List.length_append, f.1]; rfl, fun i g' z => ?_⟩
  by_cases hi : i < G.length
  · rw [List.getElem?_append_left hi] at z
    obtain ⟨b, h1, h2⟩ := f.2 i g' z
    exact ⟨b, by rw [List.getElem?_append_left (by rw [f.1]; exact hi)]; exact h1, h2⟩
  · have hi2 : i = G.length := by
      have := (List.getElem?_eq_some_iff.mp z).1
      rw [List.length_append, List.length_singleton] at this
      omega
    subst hi2
    rw [List.getElem?_append_right (Nat.le_refl _), Nat.sub_self] at z
    have e2 : g' = g := by injection z with z; exact z.symm
    subst e2
    exact ⟨a, by rw [← f.1, List.getElem?_append_right (Nat.le_refl _), Nat.sub_self]; rfl, h⟩
theorem in_kept {G : List Pr} {ls : List Int} (b : ∀ x ∈ ls, 0 ≤ x ∧ x < (G.length : Int)) : AscOf ls (kept G.length fun i => decide ((i : Int) ∈ ls)) := by
  refine ⟨(kept_asc _ _).1, fun k => ?_⟩
  rw [mem_kept]
  constructor
  · rintro ⟨i, rfl, _, h⟩; exact of_decide_eq_true h
  · intro h
    have := b k h
    exact ⟨k.toNat, by omega, by omega, by rw [show ((k.toNat : Nat) : Int) = k by omega]; exact decide_eq_true h⟩
theorem pure_law_put {K : PySem.W.Frag} (vs : List V) (H : Hp) (Q : VK) (E : XK) (h : sp_law_put K vs H Q E) : t_law_put K E { nx := fun _ H' => Q .non H', rt := Q } (start N_law_put vs) H := by
  obtain ⟨Z, m, hp, pl, pr, G, hts, ls, rs, rfl, M, hh, hlen, zm, zh, alive, hpl, hpr, bl, br, ne, big, q⟩ := h
  obtain ⟨xs, hm, fs⟩ := M
  have xl : xs.length = G.length := fs.1
  have A1 := in_kept bl
  have A2 := in_kept br
  have small : G.length < sizeLine := Nat.lt_of_le_of_lt big (by decide)
  unfold t_law_put
  repeat walk_at "mst"
  refine ⟨_, rfl, by omega, by omega, ?_⟩
  rw [Int.toNat_natCast, xl]
  refine lcR_rng (fun i => if decide ((i : Int) ∈ ls) = true then some (V.int i) else none) small (fun i hi => ?_) fun D1 H1 nD1 e1 hD1 => ?_
  · refine turn_flt fun H' e R r => ?_
    have hpl' := Evl.ex_l e hpl
    repeat walk_at "mst"
    exact r
  rw [kept_map] at hD1
  have hm1 := e1 _ _ hm
  repeat walk_at "mst"
  refine ⟨_, rfl, by omega, by omega, ?_⟩
  rw [Int.toNat_natCast, xl]
  refine lcR_rng (fun i => if decide ((i : Int) ∈ rs) = true then some (V.int i) else none) small (fun i hi => ?_) fun D2 H2 nD2 e2 hD2 => ?_
  · refine turn_flt fun H' e R r => ?_
    have hpr' := Evl.ex_l (e1.trans e) hpr
    repeat walk_at "mst"
    exact r
  rw [kept_map] at hD2
  generalize kept G.length (fun i => decide ((i : Int) ∈ ls)) = as at *
  generalize kept G.length (fun i => decide ((i : Int) ∈ rs)) = bs at *
  repeat walk_at "mst"
  refine ⟨by show 2 ≤ sizeLine; decide, fun f nf => ?_⟩
  have e3 := Evl.Ex.new (o := HO.tup [V.ref D1, V.ref D2]) nf
  have s3 : upd H2 f (HO.tup [V.ref D1, V.ref D2]) f = some (HO.tup [V.ref D1, V.ref D2]) := upd_same
  generalize upd H2 f (HO.tup [V.ref D1, V.ref D2]) = H3 at *
  have e03 := e1.trans (e2.trans e3)
  have hm3 := e03 _ _ hm
  have hh3 := e03 _ _ hh
  have fs3 := fs.ex e03
  have hD13 := e3 _ _ (e2 _ _ hD1)
  have hD23 := e3 _ _ hD2
  have nD20 : H D2 = none := by
    cases z : H D2 with
    | none => rfl
    | some o => rw [e1 _ _ z] at nD2; cases nD2
  have F3 : FormAt Z H3 f (as, bs) := ⟨D1, D2, s3, hD13, hD23, fun z => alive _ z nD1, fun z => alive _ z nD20⟩
  repeat walk_at "mst"
  refine ⟨_, rfl, by omega, by omega, ?_⟩
  rw [Int.toNat_natCast, xl]
  refine forK_range (fun i σ H' => H' = H3 ∧ (∀ j, j < i → G[j]? ≠ some (as, bs)) ∧ ∃ x : Option V, σ = [some (.ref m), some (.ref hp), some (.ref pl), some (.ref pr), some (.ref f), x]) ⟨rfl, fun j h => absurd h (Nat.not_lt_zero _), none, rfl⟩ ?_ ?_
  · rintro i σ H' hi ⟨rfl, no, x, rfl⟩
    obtain ⟨a, ha, fa⟩ := fs3.2 i G[i] (List.getElem?_eq_getElem hi)
    repeat walk_at "mst"
    refine k_ixL (k_sq hm3) (atI_nat ha) ?_
    repeat walk_at "mst"
    refine k_eqF fa F3 ?_
    repeat walk_at "mst"
    refine k_iteD (fun h => ?_) (fun h => ?_)
    · repeat walk_at "mst"
      have hk : G[i]? = some (as, bs) := by rw [List.getElem?_eq_getElem hi, h]
      exact q as bs i G hts H' A1 A2 (fun c o z _ _ => e03 c o z) ⟨xs, hm3, fs3⟩ hh3 hlen (Or.inl ⟨i, rfl, hk, rfl⟩) (Or.inl ⟨List.mem_of_getElem? hk, rfl⟩)
    · repeat walk_at "mst"
      refine ⟨rfl, fun j hj => ?_, _, rfl⟩
      rcases Nat.lt_or_ge j i with c | c
      · exact no j c
      · have : j = i := by omega
        subst this
        rw [List.getElem?_eq_getElem hi]
        exact fun z => h (Option.some.inj z)
  · rintro σ H' ⟨rfl, no, x, rfl⟩
    have nin : (as, bs) ∉ G := fun mm => by
      obtain ⟨j, hj⟩ := List.mem_iff_getElem?.mp mm
      exact no j (List.getElem?_eq_some_iff.mp hj).1 hj
    have la := (A1.asc bl).len
    have lb := (A2.asc br).len
    repeat walk_at "mst"
    · rw [xl]; exact small
    have b4 : ∀ c u, H' c = some u → c ≠ m → upd H' m (HO.lst (xs ++ [V.ref f])) c = some u := fun c u z y => (upd_ne y).trans z
    have s4 : upd H' m (HO.lst (xs ++ [V.ref f])) m = some (HO.lst (xs ++ [V.ref f])) := upd_same
    generalize upd H' m (HO.lst (xs ++ [V.ref f])) = H4 at *
    have nl : ∀ c ys, H c = none → H' c = some (HO.lst ys) → c ≠ m := fun c ys h1 _ z => by subst z; rw [h1] at hm; cases hm
    have hD14 := b4 _ _ hD13 (nl _ _ nD1 hD13)
    have hD24 := b4 _ _ hD23 (nl _ _ nD20 hD23)
    have s34 := b4 _ _ s3 (ne_of s3 hm3 (by intro z; cases z))
    have hh4 := b4 _ _ hh3 ne.symm
    repeat walk_at "mst"
    refine ⟨by show 1 ≤ sizeLine; decide, fun z nz => ?_⟩
    have e5 := Evl.Ex.new (o := HO.lst [V.int 0]) nz
    have s5 : upd H4 z (HO.lst [V.int 0]) z = some (HO.lst [V.int 0]) := upd_same
    generalize upd H4 z (HO.lst [V.int 0]) = H5 at *
    have s35 := e5 _ _ s34
    have hD15 := e5 _ _ hD14
    have hD25 := e5 _ _ hD24
    repeat walk_at "mst"
    refine k_rCat hD15 hD25 (by rw [List.length_map, List.length_map]; exact Nat.le_trans (show _ ≤ 2000 by omega) (by decide)) fun u nu => ?_
    rw [← List.map_append]
    have e6 := Evl.Ex.new (o := HO.lst ((as ++ bs).map V.int)) nu
    have s6 : upd H5 u (HO.lst ((as ++ bs).map V.int)) u = some (HO.lst ((as ++ bs).map V.int)) := upd_same
    generalize upd H5 u (HO.lst ((as ++ bs).map V.int)) = H6 at *
    have hh6 := e6 _ _ (e5 _ _ hh4)
    refine ⟨u, rfl, ⟨_, k_sq s6⟩, lcR_list (K := K) (onI (fun k => 1 + hat hts k)) (k_sq s6) (by rw [List.length_map, List.length_append]; exact Nat.lt_of_le_of_lt (show _ ≤ 2000 by omega) (by decide)) (fun x hx => ?_) fun D3 H7 nD3 e7 hD3 => ?_⟩
    · obtain ⟨k, hk, rfl⟩ := List.mem_map.mp hx
      have bk : 0 ≤ k ∧ k < G.length := by
        rcases List.mem_append.mp hk with h | h
        · exact (A1.asc bl).2 k h
        · exact (A2.asc br).2 k h
      refine turn_map fun H' e R r => ?_
      have hh' := e _ _ hh6
      repeat walk_at "mst"
      refine k_ixL (k_sq hh') (hat_at hlen bk.1 bk.2) ?_
      repeat walk_at "mst"
      exact r
    · rw [onI_map] at hD3
      have e57 := e6.trans e7
      have s57 := e57 _ _ s5
      have hh7 := e57 _ _ (e5 _ _ hh4)
      repeat walk_at "mst"
      refine k_rCat s57 hD3 (by rw [List.length_map, List.length_map, List.length_append]; exact Nat.le_trans (show _ ≤ 2001 by show 1 + _ ≤ 2001; omega) (by decide)) fun v nv => ?_
      have ev : ([V.int 0] : List V) ++ ((as ++ bs).map fun k => 1 + hat hts k).map V.int = (0 :: (as ++ bs).map fun k => 1 + hat hts k).map V.int := rfl
      rw [ev]
      have e8 := Evl.Ex.new (o := HO.lst ((0 :: (as ++ bs).map fun k => 1 + hat hts k).map V.int)) nv
      have s8 : upd H7 v (HO.lst ((0 :: (as ++ bs).map fun k => 1 + hat hts k).map V.int)) v = some (HO.lst ((0 :: (as ++ bs).map fun k => 1 + hat hts k).map V.int)) := upd_same
      generalize upd H7 v (HO.lst ((0 :: (as ++ bs).map fun k => 1 + hat hts k).map V.int)) = H8 at *
      have e48 := e5.trans (e57.trans e8)
      have hh8 := e48 _ _ hh4
      have hm8 := e48 _ _ s4
      repeat walk_at "mst"
      refine k_rMaxL (k_sq s8) (by simp) fun mx mm ml => ?_
      repeat walk_at "mst"
      · exact k_sizeL (by rw [hlen]; omega)
      have b9 : ∀ c u, H8 c = some u → c ≠ hp → upd H8 hp (HO.lst (hts.map V.int ++ [V.int mx])) c = some u := fun c u z y => (upd_ne y).trans z
      have s9 : upd H8 hp (HO.lst (hts.map V.int ++ [V.int mx])) hp = some (HO.lst ((hts ++ [mx]).map V.int)) := by rw [upd_same]; simp
      generalize upd H8 hp (HO.lst (hts.map V.int ++ [V.int mx])) = H9 at *
      have hm9 := b9 _ _ hm8 ne
      repeat walk_at "mst"
      have ei : (((xs ++ [V.ref f]).length : Nat) : Int) - 1 = (G.length : Int) := by rw [List.length_append, List.length_singleton, xl]; omega
      rw [ei]
      have all : ∀ c o, H' c = some o → c ≠ m → c ≠ hp → H9 c = some o := fun c o z h1 h2 => b9 _ _ (e48 _ _ (b4 _ _ z h1)) h2
      have nhp : ∀ c ys, H c = none → H' c = some (HO.lst ys) → c ≠ hp := fun c ys h1 _ z => by subst z; rw [h1] at hh; cases hh
      have tupn : ∀ c zs, H' c = some (HO.tup zs) → H9 c = some (HO.tup zs) := fun c zs z => all _ _ z (ne_of z hm3 (by intro y; cases y)) (ne_of z hh3 (by intro y; cases y))
      refine q as bs (G.length : Int) (G ++ [(as, bs)]) (hts ++ [mx]) H9 A1 A2 (fun c o z h1 h2 => all _ _ (e03 _ _ z) h1 h2) ⟨_, hm9, ?_⟩ s9 (by rw [List.length_append, List.length_append, hlen]; rfl) (Or.inr ⟨nin, rfl, rfl⟩) (Or.inr ⟨nin, mx, rfl, mm, ml⟩)
      exact (fs3.keep (fun c o z h => all _ _ z (fun y => h (y ▸ zm)) (fun y => h (y ▸ zh))) tupn).snoc (F3.keep (fun c o z h => all _ _ z (fun y => h (y ▸ zm)) (fun y => h (y ▸ zh))) tupn)
theorem use_put {K : PySem.W.Frag} {H : Hp} {Q : VK} {E : XK} {Z : Addr → Prop} {m hp pl pr : Addr} {G : List Pr} {hts ls rs : List Int} (M : ModAt Z H m G) (hh : H hp = some (.lst (hts.map V.int))) (hl : hts.length = G.length) (zm : Z m) (zh : Z hp) (alive : ∀ c, Z c → H c ≠ none)
    (h1 : SqL K H pl (ls.map V.int)) (h2 : SqL K H pr (rs.map V.int)) (b1 : ∀ x ∈ ls, 0 ≤ x ∧ x < (G.length : Int)) (b2 : ∀ x ∈ rs, 0 ≤ x ∧ x < (G.length : Int)) (ne : m ≠ hp) (big : G.length ≤ 1000)
    (q : ∀ (as bs : List Int) (i : Int) (G' : List Pr) (hts' : List Int) (H' : Hp), AscOf ls as → AscOf rs bs → (∀ c o, H c = some o → c ≠ m → c ≠ hp → H' c = some o) → ModAt Z H' m G' → H' hp = some (.lst (hts'.map V.int)) → hts'.length = G'.length → Put G (as, bs) i G' → HgtL G hts (as, bs) hts' → Q (.int i) H') :
    sp_law_put K ([.ref m, .ref hp, .ref pl, .ref pr] ++ []) H Q E := ⟨Z, m, hp, pl, pr, G, hts, ls, rs, rfl, M, hh, hl, zm, zh, alive, h1, h2, b1, b2, ne, big, q⟩
/-- what H knows, and two lists -/
def ZF (H : Hp) (m hp : Addr) : Addr → Prop := fun c => H c ≠ none ∨ c = m ∨ c = hp
def sp_law_family (K : PySem.W.Frag) : Sp := fun vs H Q _ => ∃ (a : Addr) (ns : List Int) (first count most : Int), vs = [.ref a, .int first, .int count, .int most] ∧ SqL K H a (ns.map V.int) ∧ 0 ≤ first ∧ (0 ≤ count ∧ count ≤ 100) ∧ 0 < most ∧
  ∀ (t m hp : Addr) (G : List Pr) (hts : List Int) (H' : Hp), Ex H H' → H' t = some (.tup [.ref m, .ref hp]) → H m = none → H hp = none → m ≠ hp → ModAt (ZF H m hp) H' m G → H' hp = some (.lst (hts.map V.int)) → hts.length = G.length → Forms G → HtOk G hts → (G.length : Int) ≤ count + 1 → Q (.ref t) H'
abbrev N_law_family : List Str := ["script", "first", "count", "most", "model", "heights", "k", "drawn"]
def t_law_family (K : PySem.W.Frag) (E : XK) : TS := (tSeq (tAsg (tLst (tCons (tTup (tCons (tLst tNil) (tCons (tLst tNil) tNil))) tNil)) (gName 4)) (tSeq (tAsg (tLst (tCons (tC (.int 0)) tNil)) (gName 5)) (tSeq (tFor (iRng1 (tCons (tVar 2) tNil)) (gName 6) (tSeq (tAsg (tCall (sp_law_drawn K) [] E0 (tCons (tVar 4) (tCons (tVar 5) (tCons (tCall (sp_law_digits K) [] E0 (tCons (tCall (sp_law_cell K) [] E0 (tCons (tVar 0) (tCons (tOp rAddI (tVar 1) (tVar 6)) tNil))) (tCons (tC (.int 12)) tNil))) (tCons (tVar 3) tNil))))) (gName 7)) (tDrop (tCall (sp_law_put K) [] E0 (tCons (tVar 4) (tCons (tVar 5) (tCons (tOp (rIxT K) (tVar 7) (tC (.int 0))) (tCons (tOp (rIxT K) (tVar 7) (tC (.int 1))) tNil)))))))) (tRet (tTup (tCons (tVar 4) (tCons (tVar 5) tNil)))))))
theorem len_law_family {K : PySem.W.Frag} {vs : List V} {H : Hp} {Q : VK} {E : XK} (h : sp_law_family K vs H Q E) : vs.length = 4 := by
  obtain ⟨_, _, _, _, _, rfl, _⟩ := h; rfl
theorem le_max (l : List Int) (f : Int → Int) (m : Int) (h : m ∈ (0 :: l.map fun k => 1 + f k)) (u : ∀ y ∈ (0 :: l.map fun k => 1 + f k), y ≤ m) (ne : l ≠ []) (nn : ∀ k ∈ l, 0 ≤ f k) : ∃ x, x ∈ l.map f ∧ (∀ y ∈ l.map f, y ≤ x) ∧ m = 1 + x := by
  have up : ∀ y ∈ l.map f, y ≤ m - 1 := fun y my => by
    obtain ⟨k, mk, rfl⟩ := List.mem_map.mp my
    have := u (1 + f k) (List.mem_cons_of_mem _ (List.mem_map.mpr ⟨k, mk, rfl⟩))
    omega
  rcases List.mem_cons.mp h with e | h
  · subst e
    cases l with
    | nil => exact absurd rfl ne
    | cons k l =>
      have h1 := up (f k) (by simp)
      have h2 := nn k List.mem_cons_self
      omega
  · obtain ⟨k, mk, e⟩ := List.mem_map.mp h
    exact ⟨f k, List.mem_map.mpr ⟨k, mk, rfl⟩, fun y my => by have := up y my; omega, by omega⟩
theorem ht_nn {G : List Pr} {hs : List Int} (o : HtOk G hs) (f : Forms G) : ∀ (n i : Nat), i < n → i < G.length → 0 ≤ hat hs i := by
  intro n
  induction n with
  | zero => intro i h; exact absurd h (Nat.not_lt_zero _)
  | succ n ih =>
    intro i hi hl
    rcases o i G[i] (List.getElem?_eq_getElem hl) with ⟨_, h⟩ | ⟨m, mm, _, h⟩
    · omega
    · obtain ⟨k, mk, e⟩ := List.mem_map.mp mm
      obtain ⟨a1, a2⟩ := f.asc i G[i] (List.getElem?_eq_getElem hl)
      have b := Asc.both a1 a2 k mk
      have := ih k.toNat (by omega) (by omega)
      rw [show ((k.toNat : Nat) : Int) = k by omega] at this
      omega
theorem ht_put {G G' : List Pr} {p : Pr} {i : Int} {hts hts' : List Int} (h : HgtL G hts p hts') (pt : Put G p i G') (o : HtOk G hts) (l : hts.length = G.length) (f : Forms G) (a : Asc G.length p.1) (b : Asc G.length p.2) : HtOk G' hts' := by
  rcases h with ⟨mem, rfl⟩ | ⟨nm, m, rfl, mm, ml⟩
  · rcases pt with ⟨_, _, _, rfl⟩ | ⟨n, _, _⟩
    · exact o
    · exact absurd mem n
  · rcases pt with ⟨k, _, hk, _⟩ | ⟨_, _, rfl⟩
    · exact absurd (List.mem_of_getElem? hk) nm
    · refine o.snoc l f a b ?_
      by_cases e : p.1 ++ p.2 = []
      · left
        refine ⟨e, ?_⟩
        rw [e] at mm
        simpa using mm
      · right
        exact le_max _ _ _ mm ml e fun k mk => by
          have bk := Asc.both a b k mk
          have := ht_nn o f (k.toNat + 1) k.toNat (Nat.lt_succ_self _) (by omega)
          rw [show ((k.toNat : Nat) : Int) = k by omega] at this
          exact this
theorem ht_zero {G : List Pr} {hs : List Int} (o : HtOk G hs) (f : Forms G) : hat hs 0 = 0 := by
  rcases o 0 _ f.zero with ⟨_, h⟩ | ⟨m, mm, _⟩
  · exact h
  · simp at mm
theorem pure_law_family {K : PySem.W.Frag} (vs : List V) (H : Hp) (Q : VK) (E : XK) (h : sp_law_family K vs H Q E) : t_law_family K E { nx := fun _ H' => Q .non H', rt := Q } (start N_law_family vs) H := by
  obtain ⟨a, ns, first, count, most, rfl, hS, f0, cn, m0, q⟩ := h
  unfold t_law_family
  repeat walk_at "mst"
  refine ⟨by decide, fun c1 n1 => ?_⟩
  have e2 := Evl.Ex.new (o := HO.lst []) n1
  have s2 : upd H c1 (HO.lst []) c1 = some (HO.lst []) := upd_same
  generalize upd H c1 (HO.lst []) = H2 at *
  repeat walk_at "mst"
  refine ⟨by decide, fun c2 n2 => ?_⟩
  have e3 := Evl.Ex.new (o := HO.lst []) n2
  have s3 : upd H2 c2 (HO.lst []) c2 = some (HO.lst []) := upd_same
  generalize upd H2 c2 (HO.lst []) = H3 at *
  repeat walk_at "mst"
  refine ⟨by show 2 ≤ sizeLine; decide, fun t0 n3 => ?_⟩
  have e4 := Evl.Ex.new (o := HO.tup [V.ref c1, V.ref c2]) n3
  have s4 : upd H3 t0 (HO.tup [V.ref c1, V.ref c2]) t0 = some (HO.tup [V.ref c1, V.ref c2]) := upd_same
  generalize upd H3 t0 (HO.tup [V.ref c1, V.ref c2]) = H4 at *
  repeat walk_at "mst"
  refine ⟨by show 1 ≤ sizeLine; decide, fun m n4 => ?_⟩
  have e5 := Evl.Ex.new (o := HO.lst [V.ref t0]) n4
  have s5 : upd H4 m (HO.lst [V.ref t0]) m = some (HO.lst [V.ref t0]) := upd_same
  generalize upd H4 m (HO.lst [V.ref t0]) = H5 at *
  repeat walk_at "mst"
  refine ⟨by show 1 ≤ sizeLine; decide, fun hp n5 => ?_⟩
  have e6 := Evl.Ex.new (o := HO.lst [V.int 0]) n5
  have s6 : upd H5 hp (HO.lst [V.int 0]) hp = some (HO.lst [V.int 0]) := upd_same
  generalize upd H5 hp (HO.lst [V.int 0]) = H6 at *
  have e04 : Ex H H4 := e2.trans (e3.trans e4)
  have e06 : Ex H H6 := e04.trans (e5.trans e6)
  have nm : H m = none := Evl.fresh_back e04 n4
  have nhp : H hp = none := Evl.fresh_back (e04.trans e5) n5
  have ne : m ≠ hp := ne_of_none s5 n5
  have f1 : ¬ ZF H m hp c1 := by
    rintro (h | h | h)
    · exact h n1
    · exact (ne_of_none (e4 _ _ (e3 _ _ s2)) n4) h
    · exact (ne_of_none (e5 _ _ (e4 _ _ (e3 _ _ s2))) n5) h
  have f2 : ¬ ZF H m hp c2 := by
    rintro (h | h | h)
    · exact h (Evl.fresh_back e2 n2)
    · exact (ne_of_none (e4 _ _ s3) n4) h
    · exact (ne_of_none (e5 _ _ (e4 _ _ s3)) n5) h
  have M6 : ModAt (ZF H m hp) H6 m [([], [])] := by
    refine ⟨_, e6 _ _ s5, rfl, fun i g z => ?_⟩
    cases i with
    | zero =>
      cases z
      exact ⟨t0, rfl, c1, c2, e6 _ _ (e5 _ _ s4), e6 _ _ (e5 _ _ (e4 _ _ (e3 _ _ s2))), e6 _ _ (e5 _ _ (e4 _ _ s3)), f1, f2⟩
    | succ i => simp at z
  have F0 : Forms [([], [])] := ⟨rfl, by simp, fun i g z => by
    cases i with
    | zero => cases z; exact ⟨⟨.nil, fun x m => nomatch m⟩, ⟨.nil, fun x m => nomatch m⟩⟩
    | succ i => simp at z⟩
  have O0 : HtOk [([], [])] [0] := fun i g z => by
    cases i with
    | zero => cases z; exact Or.inl ⟨rfl, rfl⟩
    | succ i => simp at z
  have L0 : ([0] : List Int).length = ([([], [])] : List Pr).length := rfl
  have B0 : ([([], [])] : List Pr).length ≤ 0 + 1 := Nat.le_refl _
  have s60 : H6 hp = some (.lst (([0] : List Int).map V.int)) := s6
  generalize ([([], [])] : List Pr) = G0 at *
  generalize ([0] : List Int) = h0 at *
  clear f1 f2 s2 s3 s4 s5 s6
  repeat walk_at "mst"
  refine ⟨_, rfl, by omega, by omega, forK_range (n := count.toNat) (fun i σ H' => ∃ (G : List Pr) (hts : List Int), Ex H H' ∧ ModAt (ZF H m hp) H' m G ∧ H' hp = some (.lst (hts.map V.int)) ∧ hts.length = G.length ∧ Forms G ∧ HtOk G hts ∧ G.length ≤ i + 1 ∧
    ∃ x6 x7 : Option V, σ = [some (.ref a), some (.int first), some (.int count), some (.int most), some (.ref m), some (.ref hp), x6, x7]) ⟨G0, h0, e06, M6, s60, L0, F0, O0, B0, _, _, rfl⟩ ?_ ?_⟩
  · rintro i σ H0 hi ⟨G, hts, e0, M, hh, hl, FG, O, few, x6, x7, rfl⟩
    have hs0 := Evl.ex_l e0 hS
    obtain ⟨xm, hm, fm⟩ := id M
    have alive : ∀ {H1 : Hp}, Ex H0 H1 → ∀ c, ZF H m hp c → H1 c ≠ none := fun e c z n => by
      rcases z with z | z | z
      · exact z (Evl.fresh_back (e0.trans e) n)
      · subst z; rw [e _ _ hm] at n; cases n
      · subst z; rw [e _ _ hh] at n; cases n
    repeat walk_at "mst"
    refine use_cell hs0 (by omega) fun ce => ?_
    repeat walk_at "mst"
    refine use_digits ⟨by decide, by decide⟩ fun pd ds H1 npd e1 hds dn db => ?_
    have hh1 := e1 _ _ hh
    repeat walk_at "mst"
    refine use_drawn (M.up e1) hh1 hl (ht_zero O FG) m0 (k_sq hds) (by omega) db FG (by omega) (alive e1) fun t p1 p2 ls rs H2 e2 ht hp1 hp2 zp1 zp2 bl br ll lr => ?_
    have e12 := e1.trans e2
    repeat walk_at "mst"
    refine use_put (M.up e12) (e2 _ _ hh1) hl (Or.inr (Or.inl rfl)) (Or.inr (Or.inr rfl)) (alive e12) (k_sq hp1) (k_sq hp2) bl br ne (by omega) fun as bs j G' hts' H3 A1 A2 k3 M3 hh3 hl3 pt hg => ?_
    repeat walk_at "mst"
    refine ⟨G', hts', fun c o z => k3 _ _ (e12 _ _ (e0 _ _ z)) (ne_of_none z nm) (ne_of_none z nhp), M3, hh3, hl3, FG.put pt (A1.asc bl) (A2.asc br), ht_put hg pt O hl FG (A1.asc bl) (A2.asc br), by have := pt.len; omega, _, _, rfl⟩
  · rintro σ H0 ⟨G, hts, e0, M, hh, hl, FG, O, few, x6, x7, rfl⟩
    repeat walk_at "mst"
    refine ⟨by show 2 ≤ sizeLine; decide, fun t nt => ?_⟩
    have e1 := Evl.Ex.new (o := HO.tup [V.ref m, V.ref hp]) nt
    exact q t m hp G hts _ (e0.trans e1) upd_same nm nhp ne (M.up e1) (e1 _ _ hh) hl FG O (by omega)
theorem use_family {K : PySem.W.Frag} {H : Hp} {Q : VK} {E : XK} {a : Addr} {ns : List Int} {first count most : Int} (hS : SqL K H a (ns.map V.int)) (f0 : 0 ≤ first) (cn : 0 ≤ count ∧ count ≤ 100) (m0 : 0 < most)
    (q : ∀ (t m hp : Addr) (G : List Pr) (hts : List Int) (H' : Hp), Ex H H' → H' t = some (.tup [.ref m, .ref hp]) → H m = none → H hp = none → m ≠ hp → ModAt (ZF H m hp) H' m G → H' hp = some (.lst (hts.map V.int)) → hts.length = G.length → Forms G → HtOk G hts → (G.length : Int) ≤ count + 1 → Q (.ref t) H') :
    sp_law_family K ([.ref a, .int first, .int count, .int most] ++ []) H Q E := ⟨a, ns, first, count, most, rfl, hS, f0, cn, m0, q⟩
def sp_law_count (K : PySem.W.Frag) : Sp := fun vs H Q _ => ∃ c : Int, vs = [.int c] ∧ ∀ n : Int, 1 ≤ n → n ≤ 23 → Q (.int n) H
abbrev N_law_count : List Str := ["cell", "k"]
def t_law_count (K : PySem.W.Frag) (E : XK) : TS := (tSeq (tAsg (tOp rModI (tCB rIntI (tCons (tVar 0) tNil)) (tC (.int 96))) (gName 1)) (tSeq (tIfS (tTest (tOp rEq (tOp rModI (tCB rIntI (tCons (tVar 1) tNil)) (tC (.int 8))) (tC (.int 7)))) (tRet (tOp rAddI (tC (.int 12)) (tOp rDivI (tVar 1) (tC (.int 8))))) tNext) (tRet (tOp rAddI (tC (.int 1)) (tOp rModI (tCB rIntI (tCons (tVar 1) tNil)) (tC (.int 12)))))))
theorem len_law_count {K : PySem.W.Frag} {vs : List V} {H : Hp} {Q : VK} {E : XK} (h : sp_law_count K vs H Q E) : vs.length = 1 := by
  obtain ⟨_, rfl, _⟩ := h; rfl
theorem pure_law_count {K : PySem.W.Frag} (vs : List V) (H : Hp) (Q : VK) (E : XK) (h : sp_law_count K vs H Q E) : t_law_count K E { nx := fun _ H' => Q .non H', rt := Q } (start N_law_count vs) H := by
  obtain ⟨c, rfl, q⟩ := h
  unfold t_law_count
  repeat walk_at "mst"
  refine k_iteD (fun _ => ?_) (fun _ => ?_)
  · repeat walk_at "mst"
    exact q _ (by omega) (by omega)
  · repeat walk_at "mst"
    exact q _ (by omega) (by omega)
theorem use_count {K : PySem.W.Frag} {H : Hp} {Q : VK} {E : XK} {c : Int} (q : ∀ n : Int, 1 ≤ n → n ≤ 23 → Q (.int n) H) : sp_law_count K ([.int c] ++ []) H Q E := ⟨c, rfl, q⟩
def sp_law_built (P : Program) (w : World) (K : PySem.W.Frag) : Sp := fun vs H Q _ => ∃ (Z : Addr → Prop) (F : Foot) (G : List Pr) (hs : List Int) (ts : List (Key × V)) (m : Addr), vs = [.ref F.y, .ref m] ∧ YardAt P w K H F [([], [])] hs ts ∧ ModAt Z H m G ∧ Forms G ∧
  (∀ c, ¬ Z c → Off F c) ∧ Off F m ∧ G.length ≤ 60 ∧ ∀ np H' hs', H np = none → Gr F H H' → YardAt P w K H' F G hs' ts → H' np = some (.lst ((nums G.length).map V.int)) → Q (.ref np) H'
abbrev N_law_built : List Str := ["yard", "model", "numbers", "form", "k"]
def t_law_built (P : Program) (w : World) (K : PySem.W.Frag) (E : XK) : TS := (tSeq (tAsg (tLst (tCons (tC (.int 0)) tNil)) (gName 2)) (tSeq (tFor (iList K (tSl (rSlL K) (tVar 1) (tPart (tC (.int 1))) tNoPart)) (gName 3) (tDrop (tBM K "list" rAppend (tVar 2) (tCons (tMeth (He.ga K "Yard") "game" (sp_Yard_m_game P w K) [] E0 (tVar 0) (tCons (tLc (iList K (tOp (rIxT K) (tVar 3) (tC (.int 0)))) (gName 4) tYes (tOp (rIxL K) (tVar 2) (tVar 4)) [4]) (tCons (tLc (iList K (tOp (rIxT K) (tVar 3) (tC (.int 1)))) (gName 4) tYes (tOp (rIxL K) (tVar 2) (tVar 4)) [4]) tNil))) tNil)))) (tRet (tVar 2))))
theorem len_law_built {P : Program} {w : World} {K : PySem.W.Frag} {vs : List V} {H : Hp} {Q : VK} {E : XK} (h : sp_law_built P w K vs H Q E) : vs.length = 2 := by
  obtain ⟨_, _, _, _, _, _, rfl, _⟩ := h; rfl
theorem cut_tail (xs : List V) : cutV xs (some 1) none = xs.drop 1 := by
  unfold cutV
  rw [HT.sIx_none, show (some (1 : Int)) = some ((1 : Nat) : Int) from rfl, HT.sIx_nat]
  rcases xs with _ | ⟨x, xs⟩
  · rfl
  · have e : min 1 (x :: xs).length = 1 := by rw [List.length_cons]; omega
    rw [e]
    exact List.take_of_length_le (by rw [List.length_drop]; exact Nat.le_refl _)
theorem take_new {G : List Pr} (n : G.Nodup) {i : Nat} {g : Pr} (h : G[i]? = some g) : g ∉ G.take i := by
  intro m
  obtain ⟨j, hj⟩ := List.mem_iff_getElem?.mp m
  rw [List.getElem?_take] at hj
  split at hj
  · rename_i lt
    have := nodup_at n hj h
    omega
  · cases hj
theorem pure_law_built {P : Program} {w : World} {K : PySem.W.Frag} (vs : List V) (H : Hp) (Q : VK) (E : XK) (h : sp_law_built P w K vs H Q E) : t_law_built P w K E { nx := fun _ H' => Q .non H', rt := Q } (start N_law_built vs) H := by
  obtain ⟨Z, F, G, hs, ts, m, rfl, Y, M, FG, zoff, om, few, q⟩ := h
  obtain ⟨xs, hm, fs⟩ := M
  have xl : xs.length = G.length := fs.1
  have g0 : 0 < G.length := (List.getElem?_eq_some_iff.mp FG.zero).1
  unfold t_law_built
  repeat walk_at "mst"
  refine ⟨by show 1 ≤ sizeLine; decide, fun np nnp => ?_⟩
  have e1 := Evl.Ex.new (o := HO.lst [V.int 0]) nnp
  have s1 : upd H np (HO.lst [V.int 0]) np = some (HO.lst [V.int 0]) := upd_same
  generalize upd H np (HO.lst [V.int 0]) = H1 at *
  have hm1 := e1 _ _ hm
  repeat walk_at "mst"
  refine k_slL (k_sq hm1) fun u nu => ?_
  rw [cut_tail]
  have e2 := Evl.Ex.new (o := HO.lst (xs.drop 1)) nu
  have s2 : upd H1 u (HO.lst (xs.drop 1)) u = some (HO.lst (xs.drop 1)) := upd_same
  generalize upd H1 u (HO.lst (xs.drop 1)) = H2 at *
  have e02 := e1.trans e2
  have fs2 := fs.ex e02
  have onp := Y.fresh nnp
  have ou := Y.fresh (Evl.fresh_back e1 nu)
  have dun : u ≠ np := (ne_of_none s1 nu).symm
  have t1 : G.take 1 = [([], [])] := by
    have z := FG.zero
    rcases G with _ | ⟨g, G⟩
    · simp at z
    · simp at z; rw [z]; rfl
  refine ⟨u, rfl, ⟨_, k_sq s2⟩, forK_list (xs := xs.drop 1) (fun i σ H' => ∃ (hs' : List Int) (x3 : Option V), YardAt P w K H' F (G.take (i + 1)) hs' ts ∧ H' np = some (.lst ((nums (i + 1)).map V.int)) ∧ (∀ c o, H2 c = some o → c ≠ np → Off F c → H' c = some o) ∧ σ = [some (.ref F.y), some (.ref m), some (.ref np), x3, none])
    ⟨hs, none, by rw [t1]; exact Y.ex e02, e2 _ _ s1, fun c o z _ _ => z, rfl⟩ ?_ ?_ ?_⟩
  · rintro i σ H' _ ⟨_, _, _, _, k, _⟩
    exact k_sq (k _ _ s2 dun ou)
  · rintro i x σ H0 hx ⟨hs', x3, Y0, hn, k, rfl⟩
    have hi : i + 1 < G.length := by
      have := (List.getElem?_eq_some_iff.mp hx).1
      rw [List.length_drop, xl] at this
      omega
    have hx' : xs[i + 1]? = some x := by rw [List.getElem?_drop, Nat.add_comm] at hx; exact hx
    have hg := List.getElem?_eq_getElem hi
    obtain ⟨a, ha, c, d, hf, hc, hd, zc, zd⟩ := fs2.2 (i + 1) _ hg
    rw [hx'] at ha
    injection ha with ha
    subst ha
    generalize G[i + 1] = g at *
    obtain ⟨as1, as2⟩ := FG.asc _ g hg
    have l1 := as1.len
    have l2 := as2.len
    have ncn : ∀ c' ys, H2 c' = some (HO.lst ys) → ¬ Z c' → c' ≠ np → H0 c' = some (HO.lst ys) := fun c' ys z1 z2 z3 => k _ _ z1 z3 (zoff _ z2)
    have hfH : ∃ c0 d0, H a = some (.tup [.ref c0, .ref d0]) ∧ H c0 = some (.lst (g.1.map V.int)) ∧ H d0 = some (.lst (g.2.map V.int)) := by
      obtain ⟨a', ha', c0, d0, h1, h2, h3, _⟩ := fs.2 (i + 1) g hg
      rw [hx'] at ha'
      injection ha' with ha'
      injection ha' with ha'
      subst ha'
      exact ⟨c0, d0, h1, h2, h3⟩
    obtain ⟨c0, d0, h1, h2, h3⟩ := hfH
    have ecd : c = c0 ∧ d = d0 := by
      have := (e02 _ _ h1).symm.trans hf
      injection this with this
      injection this with this
      injection this with a1 a2
      injection a2 with a2 _
      injection a1 with a1
      injection a2 with a2
      exact ⟨a1.symm, a2.symm⟩
    obtain ⟨rfl, rfl⟩ := ecd
    have hc0 := ncn c _ hc zc (ne_of_none h2 nnp)
    have hd0 := ncn d _ hd zd (ne_of_none h3 nnp)
    have hf0 := k _ _ hf (ne_of_none h1 nnp) (Y.tup h1)
    repeat walk_at "mst"
    refine Y0.meth (by decide +kernel) (by decide +kernel) (by decide +kernel) (by decide +kernel) (by decide +kernel) ?_
    repeat walk_at "mst"
    refine ⟨c, rfl, ⟨_, k_sq hc0⟩, lcR_list (K := K) (onI fun k => k) (k_sq hc0) (by rw [List.length_map]; exact Nat.lt_of_le_of_lt (show _ ≤ 100 by omega) (by decide)) (fun x hx => ?_) fun D1 H3 nD1 e3 hD1 => ?_⟩
    · obtain ⟨k', hk, rfl⟩ := List.mem_map.mp hx
      refine turn_map fun H'' e R r => ?_
      have hn3 := e _ _ hn
      repeat walk_at "mst"
      exact k_ixL (k_sq hn3) (nums_at (as1.2 k' hk).1 (as1.2 k' hk).2) r
    rw [onI_id] at hD1
    have hn3 := e3 _ _ hn
    have hf3 := e3 _ _ hf0
    have hd3 := e3 _ _ hd0
    repeat walk_at "mst"
    refine ⟨d, rfl, ⟨_, k_sq hd3⟩, lcR_list (K := K) (onI fun k => k) (k_sq hd3) (by rw [List.length_map]; exact Nat.lt_of_le_of_lt (show _ ≤ 100 by omega) (by decide)) (fun x hx => ?_) fun D2 H4 nD2 e4 hD2 => ?_⟩
    · obtain ⟨k', hk, rfl⟩ := List.mem_map.mp hx
      refine turn_map fun H'' e R r => ?_
      have hn4 := e _ _ hn3
      repeat walk_at "mst"
      exact k_ixL (k_sq hn4) (nums_at (as2.2 k' hk).1 (as2.2 k' hk).2) r
    rw [onI_id] at hD2
    have hD14 := e4 _ _ hD1
    have e24 := e3.trans e4
    have Y4 := Y0.ex e24
    have tl : (G.take (i + 1)).length = i + 1 := by rw [List.length_take]; omega
    repeat walk_at "mst"
    refine use_game Y4 (k_sq hD14) (k_sq hD2) (fun x mx => by rw [tl]; exact as1.2 x mx) (fun x mx => by rw [tl]; exact as2.2 x mx) ⟨by omega, by omega⟩ (by omega) fun as bs j G' hs2 H9 A1 A2 gr9 Y9 pt hg9 => ?_
    have ea : as = g.1 := asc_ext A1.1 as1.1 fun k => A1.2 k
    have eb : bs = g.2 := asc_ext A2.1 as2.1 fun k => A2.2 k
    subst ea; subst eb
    have hn9 := gr9 _ _ (e24 _ _ hn) onp
    rcases pt with ⟨k', _, hk', _⟩ | ⟨_, rfl, rfl⟩
    · exact absurd (List.mem_of_getElem? hk') (take_new FG.one hg)
    repeat walk_at "mst"
    · rw [List.length_map, nums_len]; exact Nat.lt_of_le_of_lt (show _ ≤ 100 by omega) (by decide)
    have kA : ∀ c o, H9 c = some o → c ≠ np → upd H9 np (HO.lst ((nums (i + 1)).map V.int ++ [V.int ((G.take (i + 1)).length : Nat)])) c = some o := fun c o z y => (upd_ne y).trans z
    have sA : upd H9 np (HO.lst ((nums (i + 1)).map V.int ++ [V.int ((G.take (i + 1)).length : Nat)])) np = some (HO.lst ((nums (i + 1 + 1)).map V.int)) := by
      rw [upd_same, tl, nums_succ (i + 1), List.map_append]
      rfl
    generalize upd H9 np (HO.lst ((nums (i + 1)).map V.int ++ [V.int ((G.take (i + 1)).length : Nat)])) = HA at *
    refine ⟨hs2, _, ?_, sA, fun c o z h1 h2 => kA _ _ (gr9 _ _ (e24 _ _ (k _ _ z h1 h2)) h2) h1, rfl⟩
    have eT : G.take (i + 1) ++ [(g.1, g.2)] = G.take (i + 1 + 1) := by
      rw [List.take_add_one (l := G) (i := i + 1), hg]
      rfl
    rw [← eT]
    exact Y9.but hn9 onp kA
  · rintro σ H0 ⟨hs', x3, Y0, hn, k, rfl⟩
    repeat walk_at "mst"
    have el : (xs.drop 1).length + 1 = G.length := by rw [List.length_drop, xl]; omega
    rw [el] at Y0 hn
    rw [List.take_of_length_le (Nat.le_refl _)] at Y0
    exact q np H0 hs' nnp (fun c o z f => k _ _ (e02 _ _ z) (ne_of_none z nnp) f) Y0 hn
theorem use_built {P : Program} {w : World} {K : PySem.W.Frag} {H : Hp} {Q : VK} {E : XK} {Z : Addr → Prop} {F : Foot} {G : List Pr} {hs : List Int} {ts : List (Key × V)} {m : Addr} (Y : YardAt P w K H F [([], [])] hs ts) (M : ModAt Z H m G) (FG : Forms G) (zoff : ∀ c, ¬ Z c → Off F c) (om : Off F m) (few : G.length ≤ 60)
    (q : ∀ np H' hs', H np = none → Gr F H H' → YardAt P w K H' F G hs' ts → H' np = some (.lst ((nums G.length).map V.int)) → Q (.ref np) H') : sp_law_built P w K (.ref F.y :: [.ref m] ++ []) H Q E := ⟨Z, F, G, hs, ts, m, rfl, Y, M, FG, zoff, om, few, q⟩
def kw (k s : Nat) : List Key := [Sum.inl (k : Int), Sum.inl (s : Int)]
/-- a memo of winners -/
structure Memo (G : List Pr) (kvs : List (List Key × V)) : Prop where
  one : (kvs.map (·.1)).Nodup
  ok : ∀ p ∈ kvs, ∃ k s : Nat, k < G.length ∧ s < 2 ∧ p = (kw k s, V.bl (winG G s k))
def sp_law_wins (K : PySem.W.Frag) (n : Nat) : Sp := fun vs H Q _ => ∃ (Z : Addr → Prop) (m d : Addr) (G : List Pr) (kvs : List (List Key × V)) (k s : Nat), vs = [.ref m, .ref d, .int (k : Int), .int (s : Int)] ∧ ModAt Z H m G ∧ Forms G ∧ H d = some (.dT kvs) ∧ Memo G kvs ∧ Z d ∧ k < G.length ∧ s < 2 ∧ k < n ∧ G.length ≤ 60 ∧
  ∀ H' kvs', (∀ c o, H c = some o → c ≠ d → H' c = some o) → H' d = some (.dT kvs') → Memo G kvs' → Q (.bl (winG G s k)) H'
local macro_rules | `(tactic| walk_at "new") => `(tactic| ((first | refine ⟨fits (Nat.le_of_ble_eq_true rfl), ?_⟩ | skip); intro p np; generalize hq : upd _ p _ = H1; have e1 := nx np hq; have s1 := nS hq; clear hq))
/-- a filter whose test changes the heap -/
theorem lcR_fs {tt : TT} {σ : L2.St} {Q : VK} {H1 : Hp} {K : PySem.W.Frag} {a : Addr} {xs : List V} {i : Nat} (St : Hp → Prop) (f : V → Bool) (hS : ∀ H, St H → SqL K H a xs) (len : xs.length < sizeLine)
    (mu : ∀ D H H', H1 D = none → (∀ c o, H c = some o → c ≠ D → H' c = some o) → St H → St H') (h1 : St H1)
    (hs : ∀ x H D ys, H1 D = none → H D = some (.lst ys) → x ∈ xs → St H → ∀ R : Bool → Hp → Prop, (∀ H', H' D = some (.lst ys) → St H' → R (f x) H') → tt ((wipe σ [i]).set i (some x)) H R)
    (q : ∀ D H', H1 D = none → H' D = some (.lst (xs.filter f)) → St H' → Q (.ref D) H') (w : ∀ x, wipe ((wipe σ [i]).set i (some x)) [i] = wipe σ [i] := by intro x; rfl) (v : ∀ x, ((wipe σ [i]).set i (some x))[i]? = some (some x) := by intro x; rfl) : lcR (gName i) tt (tVar i) [i] σ Q (Itl K a) H1 := by
  intro D hD
  refine lc_list (K := K) (a := a) (xs := xs) (fun n H => H D = some (.lst ((xs.take n).filter f)) ∧ St H) ⟨upd_same, mu D H1 _ hD (fun c o z n => (upd_ne n).trans z) h1⟩ (fun n H _ ⟨_, s⟩ => hS H s) (fun n x H hx ⟨hd, s⟩ => ?_) (fun H ⟨hd, s⟩ => q D H hD (by rw [hd, List.take_of_length_le (Nat.le_refl _)]) s)
  refine ⟨w x, hs x H D _ hD hd (List.mem_of_getElem? hx) s _ fun H' h' s' => ?_⟩
  cases hf : f x with
  | false =>
    rw [if_neg (by decide)]
    refine ⟨?_, s'⟩
    rw [h', List.take_add_one, hx, List.filter_append]
    simp [hf]
  | true =>
    rw [if_pos rfl]
    refine ⟨x, v x, _, h', ?_, ?_, mu D H' _ hD (fun c o z n => (upd_ne n).trans z) s'⟩
    · refine Nat.lt_of_le_of_lt (Nat.le_trans (List.length_filter_le _ _) ?_) len
      rw [List.length_take]; omega
    · rw [upd_same, List.take_add_one, hx, List.filter_append]
      simp [hf]
theorem nodup_lenW {α : Type} [DecidableEq α] : ∀ (l m : List α), l.Nodup → (∀ x ∈ l, x ∈ m) → l.length ≤ m.length
  | [], _, _, _ => Nat.zero_le _
  | a :: l, m, nd, h => by
    rw [List.nodup_cons] at nd
    have ih := nodup_lenW l (m.erase a) nd.2 fun x mx => by
      have : x ≠ a := fun e => nd.1 (e ▸ mx)
      exact (List.mem_erase_of_ne this).mpr (h x (List.mem_cons_of_mem _ mx))
    have ma := h a List.mem_cons_self
    rw [List.length_erase_of_mem ma] at ih
    have := List.length_pos_of_mem ma
    rw [List.length_cons]
    omega
def kws (n : Nat) : List (List Key) := (List.range n).flatMap fun k => [kw k 0, kw k 1]
theorem kws_len (n : Nat) : (kws n).length = 2 * n := by
  unfold kws
  induction n with
  | zero => rfl
  | succ n ih => rw [List.range_succ, List.flatMap_append, List.length_append, ih]; simp; omega
theorem Memo.len {G : List Pr} {kvs : List (List Key × V)} (M : Memo G kvs) : kvs.length ≤ 2 * G.length := by
  have := nodup_lenW (kvs.map (·.1)) (kws G.length) M.one fun x mx => by
    obtain ⟨p, mp, rfl⟩ := List.mem_map.mp mx
    obtain ⟨k, s, hk, hs, rfl⟩ := M.ok p mp
    refine List.mem_flatMap.mpr ⟨k, List.mem_range.mpr hk, ?_⟩
    have : s = 0 ∨ s = 1 := by omega
    rcases this with rfl | rfl <;> simp
  rw [List.length_map, kws_len] at this
  exact this
theorem kw_inj {k s k' s' : Nat} (h : kw k s = kw k' s') : k = k' ∧ s = s' := by
  unfold kw at h
  injection h with h1 h2
  injection h2 with h2 _
  injection h1 with h1
  injection h2 with h2
  exact ⟨by omega, by omega⟩
theorem Memo.get {G : List Pr} {kvs : List (List Key × V)} (M : Memo G kvs) {k s : Nat} {v : V} (h : valV kvs (kw k s) = some v) : v = .bl (winG G s k) := by
  unfold valV at h
  obtain ⟨p, hp, rfl⟩ := Option.map_eq_some_iff.mp h
  have h1 := List.find?_some hp
  obtain ⟨k', s', _, _, rfl⟩ := M.ok p (List.mem_of_find?_eq_some hp)
  obtain ⟨rfl, rfl⟩ := kw_inj (of_decide_eq_true h1)
  rfl
theorem Memo.put {G : List Pr} {kvs : List (List Key × V)} (M : Memo G kvs) {k s : Nat} (hk : k < G.length) (hs : s < 2) : Memo G (putK kvs (kw k s) (.bl (winG G s k))) := by
  unfold putK
  by_cases a : (kvs.any fun kv => decide (kv.1 = kw k s)) = true
  · rw [if_pos a]
    have e : (kvs.map fun kv => if kv.1 = kw k s then (kv.1, V.bl (winG G s k)) else kv) = kvs := by
      conv => rhs; rw [← List.map_id kvs]
      refine List.map_congr_left fun p mp => ?_
      obtain ⟨k', s', _, _, rfl⟩ := M.ok p mp
      by_cases h : kw k' s' = kw k s
      · obtain ⟨rfl, rfl⟩ := kw_inj h
        rw [if_pos rfl]; rfl
      · rw [if_neg h]; rfl
    rw [e]; exact M
  · rw [if_neg a]
    refine ⟨?_, fun p mp => ?_⟩
    · rw [List.map_append]
      refine List.nodup_append.mpr ⟨M.one, by simp, fun x mx y my e => a ?_⟩
      obtain ⟨p, mp, rfl⟩ := List.mem_map.mp mx
      rw [List.map_singleton, List.mem_singleton] at my
      exact List.any_eq_true.mpr ⟨p, mp, decide_eq_true (e.trans my)⟩
    · rcases List.mem_append.mp mp with mp | mp
      · exact M.ok p mp
      · rw [List.mem_singleton] at mp
        exact ⟨k, s, hk, hs, mp⟩
theorem Memo.goes {G : List Pr} {kvs : List (List Key × V)} (M : Memo G kvs) (p : Pr) : Memo (G ++ [p]) kvs := ⟨M.one, fun q mq => by
  obtain ⟨k, s, hk, hs, rfl⟩ := M.ok q mq
  refine ⟨k, s, by rw [List.length_append]; omega, hs, ?_⟩
  rw [winG_ext (G := G) (G' := G ++ [p]) fun i hi => (List.getElem?_append_left (by omega)).symm]⟩
theorem if_tW {c : Prop} [Decidable c] {A B : Prop} (h : c) (q : A) : if c then A else B := by rw [if_pos h]; exact q
def wf (p : Int → Bool) : V → Bool := fun x => match x with | .int o => p o | _ => false
theorem any_len (p : Int → Bool) : ∀ l : List Int, decide ((0 : Int) < (((l.map V.int).filter (wf p)).length : Int)) = l.any p
  | [] => rfl
  | a :: l => by
    have ih := any_len p l
    rw [List.map_cons, List.any_cons, ← ih]
    have e : wf p (V.int a) = p a := rfl
    cases h : p a with
    | false => rw [List.filter_cons_of_neg (by rw [e, h]; decide), Bool.false_or]
    | true =>
      rw [List.filter_cons_of_pos (by rw [e, h]), Bool.true_or, List.length_cons]
      exact decide_eq_true (by omega)
def optG (g : Pr) (s : Nat) : List Int := if s = 0 then g.1 else g.2
theorem winS {G : List Pr} (f : Forms G) {k s : Nat} {g : Pr} (h : G[k]? = some g) (hs : s < 2) : winG G s k = (optG g s).any fun o => !(winG G (1 - s) o.toNat) := by
  obtain ⟨h0, h1⟩ := winG_eq f h
  have : s = 0 ∨ s = 1 := by omega
  rcases this with rfl | rfl
  · exact h0
  · exact h1
theorem opt_asc {G : List Pr} (f : Forms G) {k s : Nat} {g : Pr} (h : G[k]? = some g) : ∀ o ∈ optG g s, 0 ≤ o ∧ o < (k : Int) := by
  obtain ⟨a1, a2⟩ := f.asc k g h
  unfold optG
  split
  · exact a1.2
  · exact a2.2
abbrev N_law_wins : List Str := ["model", "known", "at", "side", "key", "k"]
def t_law_wins (K : PySem.W.Frag) (n : Nat) (E : XK) : TS := (tSeq (tAsg (tTup (tCons (tVar 2) (tCons (tVar 3) tNil))) (gName 4)) (Evl.tCut (tIfS (tB (tDNotIn (tVar 4) (tVar 1))) (sDPut (tVar 1) (tVar 4) (tOp rGtI (tCB (rLenQ K) (tCons (tLc (iList K (tOp (rIxT K) (tOp (rIxL K) (tVar 0) (tVar 2)) (tVar 3))) (gName 5) (tNot (tB (tCall (sp_law_wins K n) [] E0 (tCons (tVar 0) (tCons (tVar 1) (tCons (tVar 5) (tCons (tOp rSubI (tC (.int 1)) (tVar 3)) tNil))))))) (tVar 5) [5]) tNil)) (tC (.int 0)))) tNext) (tRet (tDGet (tVar 1) (tVar 4)))))
theorem len_law_wins {K : PySem.W.Frag} {n : Nat} {vs : List V} {H : Hp} {Q : VK} {E : XK} (h : sp_law_wins K n vs H Q E) : vs.length = 4 := by
  obtain ⟨_, _, _, _, _, _, _, rfl, _⟩ := h; rfl
theorem no_law_wins {K : PySem.W.Frag} {vs : List V} {H : Hp} {Q : VK} {E : XK} : ¬ sp_law_wins K 0 vs H Q E := fun ⟨_, _, _, _, _, _, _, _, _, _, _, _, _, _, _, h, _⟩ => Nat.not_lt_zero _ h
theorem use_wins {K : PySem.W.Frag} {n : Nat} {H : Hp} {Q : VK} {E : XK} {Z : Addr → Prop} {m d : Addr} {G : List Pr} {kvs : List (List Key × V)} {k s : Nat} (M : ModAt Z H m G) (f : Forms G) (hd : H d = some (.dT kvs)) (me : Memo G kvs) (zd : Z d) (hk : k < G.length) (hs : s < 2) (kn : k < n) (few : G.length ≤ 60)
    (q : ∀ H' kvs', (∀ c o, H c = some o → c ≠ d → H' c = some o) → H' d = some (.dT kvs') → Memo G kvs' → Q (.bl (winG G s k)) H') : sp_law_wins K n ([.ref m, .ref d, .int (k : Int), .int (s : Int)] ++ []) H Q E := ⟨Z, m, d, G, kvs, k, s, rfl, M, f, hd, me, zd, hk, hs, kn, few, q⟩
theorem pure_law_wins {K : PySem.W.Frag} (n : Nat) (vs : List V) (H : Hp) (Q : VK) (E : XK) (h : sp_law_wins K (n + 1) vs H Q E) : t_law_wins K n E { nx := fun _ H' => Q .non H', rt := Q } (start N_law_wins vs) H := by
  obtain ⟨Z, m, d, G, kvs, k, s, rfl, M, f, hd, me, zd, hk, hs, kn, few, q⟩ := h
  obtain ⟨xm, hm, fm⟩ := id M
  unfold t_law_wins
  repeat walk_at "mst"
  walk_at "new"; rename_i t nt H1 e1 s1
  have hd1 := e1 _ _ hd
  have ndt : t ≠ d := (ne_of_none hd nt).symm
  have ndm : m ≠ d := fun h => by rw [h, hd] at hm; cases hm
  repeat walk_at "mst"
  refine k_cut (fun σ' H' => ∃ (kvs' : List (List Key × V)) (x5 : Option V), (∀ c o, H1 c = some o → c ≠ d → H' c = some o) ∧ H' d = some (.dT kvs') ∧ Memo G kvs' ∧ (valV kvs' (kw k s)).isSome = true ∧ σ' = [some (.ref m), some (.ref d), some (.int (k : Int)), some (.int (s : Int)), some (.ref t), x5]) ?_ ?_
  · repeat walk_at "mst"
    refine ⟨d, _, rfl, DGet.t (k := kw k s) hd1 s1, ?_⟩
    cases hv : valV kvs (kw k s) with
    | some v =>
      repeat walk_at "mst"
      exact ⟨kvs, _, fun c o z _ => z, hd1, me, by rw [hv]; rfl, rfl⟩
    | none =>
      repeat walk_at "mst"
      refine if_tW rfl ?_
      obtain ⟨g, hg⟩ : ∃ g, G[k]? = some g := ⟨_, List.getElem?_eq_getElem hk⟩
      obtain ⟨a, ha, c0, c1, hf, h0, h1, z0, z1⟩ := fm.2 k g hg
      obtain ⟨c, hc, hl, zc⟩ : ∃ c, [V.ref c0, V.ref c1][s]? = some (V.ref c) ∧ H c = some (.lst ((optG g s).map V.int)) ∧ ¬ Z c := by
        have : s = 0 ∨ s = 1 := by omega
        rcases this with rfl | rfl
        · exact ⟨c0, rfl, h0, z0⟩
        · exact ⟨c1, rfl, h1, z1⟩
      have ncd : c ≠ d := fun h => zc (h ▸ zd)
      have asc := opt_asc f (s := s) hg
      have lenO : (optG g s).length < sizeLine := by
        have : (optG g s).length ≤ k := by
          obtain ⟨a1, a2⟩ := f.asc k g hg
          unfold optG
          split
          · exact a1.len
          · exact a2.len
        exact Nat.lt_of_le_of_lt (show _ ≤ 100 by omega) (by decide)
      repeat walk_at "mst"
      refine k_ixL (k_sq (e1 _ _ hm)) (atI_nat ha) ?_
      repeat walk_at "mst"
      refine k_ixT (k_st (e1 _ _ hf)) (atI_nat hc) ?_
      repeat walk_at "mst"
      refine ⟨c, rfl, ⟨_, k_sq (e1 _ _ hl)⟩, ?_⟩
      refine lcR_fs (fun H' => ∃ kvs', (∀ c o, H1 c = some o → c ≠ d → H' c = some o) ∧ H' d = some (.dT kvs') ∧ Memo G kvs') (wf fun o => !(winG G (1 - s) o.toNat)) (fun H' ⟨kvs', kp, _⟩ => k_sq (kp _ _ (e1 _ _ hl) ncd)) (by rw [List.length_map]; exact lenO) ?_ ⟨kvs, fun c o z _ => z, hd1, me⟩ ?_ ?_
      · rintro D Ha Hb hD k2 ⟨kvs', kp, h2, me2⟩
        exact ⟨kvs', fun c o z n => k2 _ _ (kp _ _ z n) (ne_of_none z hD), k2 _ _ h2 (ne_of_none hd1 hD), me2⟩
      · rintro x Ha D ys hD hy mx ⟨kvs', kp, h2, me2⟩ R r
        obtain ⟨o, mo, rfl⟩ := List.mem_map.mp mx
        obtain ⟨o0, ok⟩ := asc o mo
        repeat walk_at "mst"
        have M' : ModAt Z Ha m G := ⟨xm, kp _ _ (e1 _ _ hm) ndm, fm.keep (fun c o z n => kp _ _ (e1 _ _ z) (fun h => n (h ▸ zd))) (fun c ys z => kp _ _ (e1 _ _ z) (fun h => by rw [h, hd] at z; cases z))⟩
        obtain ⟨o', rfl⟩ : ∃ o' : Nat, o = o' := ⟨o.toNat, by omega⟩
        have es : (1 : Int) - (s : Int) = ((1 - s : Nat) : Int) := by omega
        rw [es]
        exact use_wins M' f h2 me2 zd (by omega) (by omega) (by omega) few fun Hb kvs3 k3 hd3 me3 => ⟨_, rfl, r Hb (k3 _ _ hy (ne_of_none hd1 hD).symm) ⟨kvs3, fun c o z n => k3 _ _ (kp _ _ z n) n, hd3, me3⟩⟩
      · rintro D Ha hD h2 ⟨kvs', kp, hd2, me2⟩
        repeat walk_at "mst"
        have ml := me2.len
        refine ⟨d, _, rfl, DPut.t (k := kw k s) hd2 (kp _ _ s1 ndt) (fits' (by omega)), ?_⟩
        rw [any_len, ← winS f hg hs]
        exact ⟨_, _, fun c o z n => (upd_ne n).trans (kp _ _ z n), upd_same, me2.put hk hs, by rw [valV_put, if_pos rfl]; rfl, rfl⟩
  · rintro σ' H2 ⟨kvs2, x5, k2, hd2, me2, val, rfl⟩
    obtain ⟨v, hv⟩ := Option.isSome_iff_exists.mp val
    repeat walk_at "mst"
    refine ⟨d, v, rfl, ?_, ?_⟩
    · rw [← hv]
      exact DGet.t hd2 (k2 _ _ s1 ndt)
    · rw [me2.get hv]
      exact q H2 kvs2 (fun c o z n => k2 _ _ (e1 _ _ z) n) hd2 me2
def sp_Wins_m_can_win (K : PySem.W.Frag) : Sp := fun vs H Q _ => ∃ (a dx y l r : Addr) (G : List Pr) (n k : Nat) (s : Str), vs = [.ref a, .int (k : Int), .str s] ∧ WnAt K H a dx y l r G n ∧ k < n ∧ (s = "left" ∨ s = "right") ∧ Q (.bl (winG G (if s = "left" then 0 else 1) k)) H
theorem k_eqStrW {H : Hp} {Q : VK} {a b : Str} (q : Q (.bl (decide (a = b))) H) : rEq (.str a) (.str b) H Q := ⟨rfl, by
  have e : decide (V.str a = V.str b) = decide (a = b) := decide_eq_decide.mpr ⟨fun h => V.str.inj h, fun h => by rw [h]⟩
  rw [e]; exact q⟩
local macro_rules | `(tactic| walk_at "mlk") => `(tactic| first | exact wfs_l _ _ _ | exact wfs_r _ _ _ | exact wfs_y _ _ _)
abbrev N_Wins_m_can_win : List Str := ["self", "game", "side"]
def t_Wins_m_can_win (K : PySem.W.Frag) (E : XK) : TS := (tSeq (tIfS (tTest (tOp rEq (tVar 2) (tC (.str "left")))) (tRet (tOp (rIxL K) (tFld K (tVar 0) "_left") (tVar 1))) tNext) (tRet (tOp (rIxL K) (tFld K (tVar 0) "_right") (tVar 1))))
theorem len_Wins_m_can_win {K : PySem.W.Frag} {vs : List V} {H : Hp} {Q : VK} {E : XK} (h : sp_Wins_m_can_win K vs H Q E) : vs.length = 3 := by
  obtain ⟨_, _, _, _, _, _, _, _, _, rfl, _⟩ := h; rfl
theorem pure_Wins_m_can_win {K : PySem.W.Frag} (F : FWins K) (vs : List V) (H : Hp) (Q : VK) (E : XK) (h : sp_Wins_m_can_win K vs H Q E) : t_Wins_m_can_win K E { nx := fun _ H' => Q .non H', rt := Q } (start N_Wins_m_can_win vs) H := by
  obtain ⟨a, dx, y, l, r, G, n, k, s, rfl, W, hk, hs, q⟩ := h
  obtain ⟨cl, ny, nl, nr⟩ := F
  obtain ⟨hi, hl, hr, lr⟩ := W
  obtain ⟨t1, t2⟩ := tab_win G hk
  have g1 : ((wTab G n).1.map V.bl)[k]? = some (.bl (winG G 0 k)) := by rw [List.getElem?_map, t1]; rfl
  have g2 : ((wTab G n).2.map V.bl)[k]? = some (.bl (winG G 1 k)) := by rw [List.getElem?_map, t2]; rfl
  unfold t_Wins_m_can_win
  repeat walk_at "mst"
  refine k_eqStrW ?_
  repeat walk_at "mst"
  refine k_iteD (fun z => ?_) (fun z => ?_)
  · rw [if_pos z] at q
    repeat walk_at "mst"
    exact k_ixL (k_sq hl) (atI_nat g1) q
  · rw [if_neg z] at q
    repeat walk_at "mst"
    exact k_ixL (k_sq hr) (atI_nat g2) q
theorem use_canwin {K : PySem.W.Frag} {H : Hp} {Q : VK} {E : XK} {a dx y l r : Addr} {G : List Pr} {n k : Nat} {s : Str} (W : WnAt K H a dx y l r G n) (hk : k < n) (hs : s = "left" ∨ s = "right") (q : Q (.bl (winG G (if s = "left" then 0 else 1) k)) H) : sp_Wins_m_can_win K (.ref a :: ([.int (k : Int), .str s] ++ [])) H Q E := ⟨a, dx, y, l, r, G, n, k, s, rfl, W, hk, hs, q⟩
/-- an order of a yard, with the winners of n games known -/
structure OrAt (K : PySem.W.Frag) (H : Hp) (F : Foot) (a dx wn dw wl wr sm : Addr) (G : List Pr) (n : Nat) : Prop where
  ins : H a = some (.ins (He.ga K "Order") dx (ofs F.y wn sm))
  wn : WnAt K H wn dw F.y wl wr G n
  ol : Off F wl
  or_ : Off F wr
def sp_Order_m_can_win (P : Program) (w : World) (K : PySem.W.Frag) : Sp := fun vs H Q _ => ∃ (F : Foot) (G : List Pr) (hs : List Int) (ts : List (Key × V)) (a dx wn dw wl wr sm : Addr) (n k : Nat) (s : Str), vs = [.ref a, .int (k : Int), .str s] ∧ YardAt P w K H F G hs ts ∧ OrAt K H F a dx wn dw wl wr sm G n ∧ n ≤ G.length ∧ G.length ≤ 1000 ∧ k < G.length ∧ (s = "left" ∨ s = "right") ∧
  ∀ H', (∀ c o, H c = some o → c ≠ wl → c ≠ wr → H' c = some o) → YardAt P w K H' F G hs ts → OrAt K H' F a dx wn dw wl wr sm G G.length → Q (.bl (winG G (if s = "left" then 0 else 1) k)) H'
local macro_rules | `(tactic| walk_at "mlk") => `(tactic| first | exact ofs_y _ _ _ | exact ofs_w _ _ _)
abbrev N_Order_m_can_win : List Str := ["self", "game", "side"]
def t_Order_m_can_win (P : Program) (w : World) (K : PySem.W.Frag) (E : XK) : TS := (tSeq (tDrop (tMeth (He.ga K "Yard") "check" (sp_Yard_m_check P w K) [] E0 (tFld K (tVar 0) "_yard") (tCons (tVar 1) tNil))) (tSeq (tDrop (tMeth (He.ga K "Wins") "catch_up" (sp_Wins_m_catch_up P w K) [] E0 (tFld K (tVar 0) "_wins") tNil)) (tRet (tMeth (He.ga K "Wins") "can_win" (sp_Wins_m_can_win K) [] E0 (tFld K (tVar 0) "_wins") (tCons (tVar 1) (tCons (tVar 2) tNil))))))
theorem len_Order_m_can_win {P : Program} {w : World} {K : PySem.W.Frag} {vs : List V} {H : Hp} {Q : VK} {E : XK} (h : sp_Order_m_can_win P w K vs H Q E) : vs.length = 3 := by
  obtain ⟨_, _, _, _, _, _, _, _, _, _, _, _, _, _, rfl, _⟩ := h; rfl
theorem pure_Order_m_can_win {P : Program} {w : World} {K : PySem.W.Frag} (F0 : FOrder K) (vs : List V) (H : Hp) (Q : VK) (E : XK) (h : sp_Order_m_can_win P w K vs H Q E) : t_Order_m_can_win P w K E { nx := fun _ H' => Q .non H', rt := Q } (start N_Order_m_can_win vs) H := by
  obtain ⟨F, G, hs, ts, a, dx, wn, dw, wl, wr, sm, n, k, s, rfl, Y, A, ng, few, hk, hS, q⟩ := h
  obtain ⟨cl, n1, n2, n3⟩ := F0
  obtain ⟨hi, W, ol, or_⟩ := A
  unfold t_Order_m_can_win
  repeat walk_at "mst"
  refine Y.meth (m := "check") (by decide +kernel) (by decide +kernel) (by decide +kernel) (by decide +kernel) (by decide +kernel) ?_
  repeat walk_at "mst"
  refine use_check Y ⟨by omega, by omega⟩ ?_
  repeat walk_at "mst"
  refine ⟨wn, dw, _, rfl, W.ins, wfs_no _ _ _ (by decide +kernel) (by decide +kernel) (by decide +kernel), ?_⟩
  repeat walk_at "mst"
  refine use_catch Y W ng few ol or_ fun H1 k1 Y1 W1 => ?_
  have nal : ∀ {c : Addr} {xs : List V}, H c = some (.lst xs) → a ≠ c := fun z h => by rw [h, z] at hi; cases hi
  have hi1 := k1 _ _ hi (nal W.hl) (nal W.hr)
  repeat walk_at "mst"
  refine ⟨wn, dw, _, rfl, W1.ins, wfs_no _ _ _ (by decide +kernel) (by decide +kernel) (by decide +kernel), ?_⟩
  repeat walk_at "mst"
  refine use_canwin W1 hk hS ?_
  exact q H1 k1 Y1 ⟨hi1, W1, ol, or_⟩
theorem use_ocan {P : Program} {w : World} {K : PySem.W.Frag} {H : Hp} {Q : VK} {E : XK} {F : Foot} {G : List Pr} {hs : List Int} {ts : List (Key × V)} {a dx wn dw wl wr sm : Addr} {n k : Nat} {s : Str} (Y : YardAt P w K H F G hs ts) (A : OrAt K H F a dx wn dw wl wr sm G n) (ng : n ≤ G.length) (few : G.length ≤ 1000) (hk : k < G.length) (hS : s = "left" ∨ s = "right")
    (q : ∀ H', (∀ c o, H c = some o → c ≠ wl → c ≠ wr → H' c = some o) → YardAt P w K H' F G hs ts → OrAt K H' F a dx wn dw wl wr sm G G.length → Q (.bl (winG G (if s = "left" then 0 else 1) k)) H') : sp_Order_m_can_win P w K (.ref a :: ([.int (k : Int), .str s] ++ [])) H Q E := ⟨F, G, hs, ts, a, dx, wn, dw, wl, wr, sm, n, k, s, rfl, Y, A, ng, few, hk, hS, q⟩
def outc (l r : Bool) : Str := if l = true then (if r = true then "first" else "left") else if r = true then "right" else "second"
def sp_Order_m_outcome (P : Program) (w : World) (K : PySem.W.Frag) : Sp := fun vs H Q _ => ∃ (F : Foot) (G : List Pr) (hs : List Int) (ts : List (Key × V)) (a dx wn dw wl wr sm : Addr) (n k : Nat), vs = [.ref a, .int (k : Int)] ∧ YardAt P w K H F G hs ts ∧ OrAt K H F a dx wn dw wl wr sm G n ∧ n ≤ G.length ∧ G.length ≤ 1000 ∧ k < G.length ∧
  ∀ H', (∀ c o, H c = some o → c ≠ wl → c ≠ wr → H' c = some o) → YardAt P w K H' F G hs ts → OrAt K H' F a dx wn dw wl wr sm G G.length → Q (.str (outc (winG G 0 k) (winG G 1 k))) H'
abbrev N_Order_m_outcome : List Str := ["self", "game", "left_wins", "right_wins"]
def t_Order_m_outcome (P : Program) (w : World) (K : PySem.W.Frag) (E : XK) : TS := (tSeq (tAsg (tMeth (He.ga K "Order") "can_win" (sp_Order_m_can_win P w K) [] E0 (tVar 0) (tCons (tVar 1) (tCons (tC (.str "left")) tNil))) (gName 2)) (tSeq (tAsg (tMeth (He.ga K "Order") "can_win" (sp_Order_m_can_win P w K) [] E0 (tVar 0) (tCons (tVar 1) (tCons (tC (.str "right")) tNil))) (gName 3)) (tSeq (tIfS (tB (tVar 2)) (tRet (tIf (tB (tVar 3)) (tC (.str "first")) (tC (.str "left")))) tNext) (tRet (tIf (tB (tVar 3)) (tC (.str "right")) (tC (.str "second")))))))
theorem len_Order_m_outcome {P : Program} {w : World} {K : PySem.W.Frag} {vs : List V} {H : Hp} {Q : VK} {E : XK} (h : sp_Order_m_outcome P w K vs H Q E) : vs.length = 2 := by
  obtain ⟨_, _, _, _, _, _, _, _, _, _, _, _, _, rfl, _⟩ := h; rfl
theorem pure_Order_m_outcome {P : Program} {w : World} {K : PySem.W.Frag} (F0 : FOrder K) (vs : List V) (H : Hp) (Q : VK) (E : XK) (h : sp_Order_m_outcome P w K vs H Q E) : t_Order_m_outcome P w K E { nx := fun _ H' => Q .non H', rt := Q } (start N_Order_m_outcome vs) H := by
  obtain ⟨F, G, hs, ts, a, dx, wn, dw, wl, wr, sm, n, k, rfl, Y, A, ng, few, hk, q⟩ := h
  unfold t_Order_m_outcome
  repeat walk_at "mst"
  refine ⟨a, dx, _, rfl, A.ins, ofs_no _ _ _ (by decide +kernel) (by decide +kernel) (by decide +kernel), ?_⟩
  repeat walk_at "mst"
  refine use_ocan (k := k) Y A ng few hk (Or.inl rfl) fun H1 k1 Y1 A1 => ?_
  repeat walk_at "mst"
  refine ⟨a, dx, _, rfl, A1.ins, ofs_no _ _ _ (by decide +kernel) (by decide +kernel) (by decide +kernel), ?_⟩
  repeat walk_at "mst"
  refine use_ocan (k := k) Y1 A1 (Nat.le_refl _) few hk (Or.inr rfl) fun H2 k2 Y2 A2 => ?_
  rw [show (if ("right" : Str) = "left" then 0 else 1) = 1 from by decide +kernel]
  rw [show (if ("left" : Str) = "left" then 0 else 1) = 0 from rfl]
  have q2 := q H2 (fun c o z n1 n2 => k2 _ _ (k1 _ _ z n1 n2) n1 n2) Y2 A2
  unfold outc at q2
  cases h0 : winG G 0 k <;> cases h1 : winG G 1 k <;> rw [h0, h1] at q2 <;> repeat walk_at "mst"
  all_goals exact q2
theorem use_outcome {P : Program} {w : World} {K : PySem.W.Frag} {H : Hp} {Q : VK} {E : XK} {F : Foot} {G : List Pr} {hs : List Int} {ts : List (Key × V)} {a dx wn dw wl wr sm : Addr} {n k : Nat} (Y : YardAt P w K H F G hs ts) (A : OrAt K H F a dx wn dw wl wr sm G n) (ng : n ≤ G.length) (few : G.length ≤ 1000) (hk : k < G.length)
    (q : ∀ H', (∀ c o, H c = some o → c ≠ wl → c ≠ wr → H' c = some o) → YardAt P w K H' F G hs ts → OrAt K H' F a dx wn dw wl wr sm G G.length → Q (.str (outc (winG G 0 k) (winG G 1 k))) H') : sp_Order_m_outcome P w K (.ref a :: ([.int (k : Int)] ++ [])) H Q E := ⟨F, G, hs, ts, a, dx, wn, dw, wl, wr, sm, n, k, rfl, Y, A, ng, few, hk, q⟩
theorem OrAt.ke {K : PySem.W.Frag} {H H' : Hp} {F : Foot} {a dx wn dw wl wr sm : Addr} {G : List Pr} {n : Nat} (A : OrAt K H F a dx wn dw wl wr sm G n) (k : ∀ c o, H c = some o → c = a ∨ c = wn ∨ c = wl ∨ c = wr → H' c = some o) : OrAt K H' F a dx wn dw wl wr sm G n :=
  ⟨k _ _ A.ins (by simp), A.wn.keep fun c o z h => k c o z (by rcases h with h | h | h <;> simp [h]), A.ol, A.or_⟩
theorem YardAt.butD {P : Program} {w : World} {K : PySem.W.Frag} {H H' : Hp} {F : Foot} {G : List Pr} {hs : List Int} {ts : List (Key × V)} (Y : YardAt P w K H F G hs ts) {p : Addr} {kvs : List (List Key × V)} (hp : H p = some (.dT kvs)) (off : Off F p) (k : ∀ c o, H c = some o → c ≠ p → H' c = some o) : YardAt P w K H' F G hs ts :=
  have kt : ∀ c xs, H c = some (.tup xs) → H' c = some (.tup xs) := fun c xs z => k _ _ z (ne_of z hp (by intro y; cases y))
  ⟨k _ _ Y.ins (fun h => by have z := Y.ins; rw [h, hp] at z; cases z), let ⟨xs, h1, h2⟩ := Y.ls; ⟨xs, k _ _ h1 off.1.symm, h2.ex kt⟩, let ⟨xs, h1, h2⟩ := Y.rs; ⟨xs, k _ _ h1 off.2.1.symm, h2.ex kt⟩, ⟨k _ _ Y.hs.1 off.2.2.1.symm, Y.hs.2⟩,
    let ⟨kvs, h1, h2, h3⟩ := Y.ns; ⟨kvs, k _ _ h1 off.2.2.2.1.symm, fun x m => (h2 x m).ex kt, h3⟩, k _ _ Y.ts off.2.2.2.2.symm, Y.ne, Y.ht, Y.G⟩
/-- a yard, an order of it, a law's forms, its numbers, its memo of winners -/
structure Play (P : Program) (w : World) (K : PySem.W.Frag) (Z : Addr → Prop) (F : Foot) (G : List Pr) (hs : List Int) (ts : List (Key × V)) (a dx wn dw wl wr sm m np d : Addr) (H : Hp) : Prop where
  Y : YardAt P w K H F G hs ts
  A : ∃ n, n ≤ G.length ∧ OrAt K H F a dx wn dw wl wr sm G n
  M : ModAt Z H m G
  hn : H np = some (.lst ((nums G.length).map V.int))
  hd : ∃ kvs, H d = some (.dT kvs) ∧ Memo G kvs
  z : Z d ∧ Z wl ∧ Z wr
  od : Off F d
  ns : np ≠ wl ∧ np ≠ wr ∧ m ≠ wl ∧ m ≠ wr
  few : G.length ≤ 25
section
variable {P : Program} {w : World} {K : PySem.W.Frag} {Z : Addr → Prop} {F : Foot} {G : List Pr} {hs : List Int} {ts : List (Key × V)} {a dx wn dw wl wr sm m np d : Addr} {H H' : Hp}
theorem Play.dw_ (p : Play P w K Z F G hs ts a dx wn dw wl wr sm m np d H) : d ≠ wl ∧ d ≠ wr := by
  obtain ⟨kvs, hd, _⟩ := p.hd
  obtain ⟨n, _, A⟩ := p.A
  exact ⟨ne_of hd A.wn.hl (by intro y; cases y), ne_of hd A.wn.hr (by intro y; cases y)⟩
theorem Play.to (p : Play P w K Z F G hs ts a dx wn dw wl wr sm m np d H) (k : ∀ c o, H c = some o → c ≠ wl → c ≠ wr → c ≠ d → H' c = some o) (Y : YardAt P w K H' F G hs ts) (A : ∃ n, n ≤ G.length ∧ OrAt K H' F a dx wn dw wl wr sm G n) (hd : ∃ kvs, H' d = some (.dT kvs) ∧ Memo G kvs) : Play P w K Z F G hs ts a dx wn dw wl wr sm m np d H' := by
  obtain ⟨kvs, hd0, _⟩ := p.hd
  obtain ⟨n, _, A0⟩ := p.A
  obtain ⟨xm, hm, fm⟩ := p.M
  have hl := A0.wn.hl
  have hr := A0.wn.hr
  exact ⟨Y, A, ⟨xm, k _ _ hm p.ns.2.2.1 p.ns.2.2.2 (ne_of hm hd0 (by intro y; cases y)), fm.keep (fun c o z y => k _ _ z (fun h => y (h ▸ p.z.2.1)) (fun h => y (h ▸ p.z.2.2)) (fun h => y (h ▸ p.z.1))) (fun c ys z => k _ _ z (ne_of z hl (by intro y; cases y)) (ne_of z hr (by intro y; cases y)) (ne_of z hd0 (by intro y; cases y)))⟩,
    k _ _ p.hn p.ns.1 p.ns.2.1 (ne_of p.hn hd0 (by intro y; cases y)), hd, p.z, p.od, p.ns, p.few⟩
theorem Play.ex (p : Play P w K Z F G hs ts a dx wn dw wl wr sm m np d H) (e : Ex H H') : Play P w K Z F G hs ts a dx wn dw wl wr sm m np d H' :=
  p.to (fun c o z _ _ _ => e c o z) (p.Y.ex e) (let ⟨n, h, A⟩ := p.A; ⟨n, h, A.ke fun c o z _ => e c o z⟩) (let ⟨kvs, h, me⟩ := p.hd; ⟨kvs, e _ _ h, me⟩)
/-- the memo grows -/
theorem Play.byD (p : Play P w K Z F G hs ts a dx wn dw wl wr sm m np d H) {kvs' : List (List Key × V)} (k : ∀ c o, H c = some o → c ≠ d → H' c = some o) (h : H' d = some (.dT kvs')) (me : Memo G kvs') : Play P w K Z F G hs ts a dx wn dw wl wr sm m np d H' := by
  obtain ⟨kvs, hd0, _⟩ := id p.hd
  obtain ⟨n, hn, A⟩ := id p.A
  have A' : OrAt K H' F a dx wn dw wl wr sm G n := A.ke fun c o z h => k c o z (by
    rcases h with rfl | rfl | rfl | rfl
    · exact ne_of A.ins hd0 (by intro y; cases y)
    · exact ne_of A.wn.ins hd0 (by intro y; cases y)
    · exact p.dw_.1.symm
    · exact p.dw_.2.symm)
  exact p.to (fun c o z _ _ n => k c o z n) (p.Y.butD hd0 p.od k) ⟨n, hn, A'⟩ ⟨kvs', h, me⟩
/-- the order reads on -/
theorem Play.byO (p : Play P w K Z F G hs ts a dx wn dw wl wr sm m np d H) {n : Nat} (k : ∀ c o, H c = some o → c ≠ wl → c ≠ wr → H' c = some o) (Y : YardAt P w K H' F G hs ts) (hn : n ≤ G.length) (A : OrAt K H' F a dx wn dw wl wr sm G n) : Play P w K Z F G hs ts a dx wn dw wl wr sm m np d H' :=
  p.to (fun c o z n1 n2 _ => k c o z n1 n2) Y ⟨n, hn, A⟩ (let ⟨kvs, h, me⟩ := p.hd; ⟨kvs, k _ _ h p.dw_.1 p.dw_.2, me⟩)
end
def sp_law_outcome (P : Program) (w : World) (K : PySem.W.Frag) : Sp := fun vs H Q _ => ∃ (Z : Addr → Prop) (F : Foot) (G : List Pr) (hs : List Int) (ts : List (Key × V)) (a dx wn dw wl wr sm m np d : Addr) (k : Nat), vs = [.ref a, .ref m, .ref np, .ref d, .int (k : Int)] ∧ Play P w K Z F G hs ts a dx wn dw wl wr sm m np d H ∧ k < G.length ∧
  ∀ H', (∀ c o, H c = some o → c ≠ wl → c ≠ wr → c ≠ d → H' c = some o) → Play P w K Z F G hs ts a dx wn dw wl wr sm m np d H' → Q (.bl true) H'
abbrev N_law_outcome : List Str := ["order", "model", "numbers", "known", "at", "left", "right", "due", "told"]
def t_law_outcome (P : Program) (w : World) (K : PySem.W.Frag) (E : XK) : TS := (tSeq (tAsg (tCall (sp_law_wins K 25) [] E0 (tCons (tVar 1) (tCons (tVar 3) (tCons (tVar 4) (tCons (tC (.int 0)) tNil))))) (gName 5)) (tSeq (tAsg (tCall (sp_law_wins K 25) [] E0 (tCons (tVar 1) (tCons (tVar 3) (tCons (tVar 4) (tCons (tC (.int 1)) tNil))))) (gName 6)) (tSeq (tAsg (tC (.str "second")) (gName 7)) (Evl.tCut (tIfS (tAnd (tB (tVar 5)) (tB (tVar 6))) (tAsg (tC (.str "first")) (gName 7)) (tIfS (tB (tVar 5)) (tAsg (tC (.str "left")) (gName 7)) (tIfS (tB (tVar 6)) (tAsg (tC (.str "right")) (gName 7)) tNext))) (tSeq (tAsg (tMeth (He.ga K "Order") "outcome" (sp_Order_m_outcome P w K) [] E0 (tVar 0) (tCons (tOp (rIxL K) (tVar 2) (tVar 4)) tNil)) (gName 8)) (tRet (tAndV (tCB (rIsi K) (tCons (tVar 8) (tCons (tC (.ty "str")) tNil))) (tOp rEq (tVar 8) (tVar 7)))))))))
theorem len_law_outcome {P : Program} {w : World} {K : PySem.W.Frag} {vs : List V} {H : Hp} {Q : VK} {E : XK} (h : sp_law_outcome P w K vs H Q E) : vs.length = 5 := by
  obtain ⟨_, _, _, _, _, _, _, _, _, _, _, _, _, _, _, _, rfl, _⟩ := h; rfl
theorem k_eqStrL {H : Hp} {Q : VK} {a b : Str} (q : Q (.bl (decide (a = b))) H) : rEq (.str a) (.str b) H Q := ⟨rfl, by
  have e : decide (V.str a = V.str b) = decide (a = b) := decide_eq_decide.mpr ⟨fun h => V.str.inj h, fun h => by rw [h]⟩
  rw [e]; exact q⟩
theorem pure_law_outcome {P : Program} {w : World} {K : PySem.W.Frag} (vs : List V) (H : Hp) (Q : VK) (E : XK) (h : sp_law_outcome P w K vs H Q E) : t_law_outcome P w K E { nx := fun _ H' => Q .non H', rt := Q } (start N_law_outcome vs) H := by
  obtain ⟨Z, F, G, hs, ts, a, dx, wn, dw, wl, wr, sm, m, np, d, k, rfl, p, hk, q⟩ := h
  have few := p.few
  obtain ⟨kvs, hd, me⟩ := id p.hd
  unfold t_law_outcome
  repeat walk_at "mst"
  refine use_wins (s := 0) p.M p.Y.G hd me p.z.1 hk (by decide) (by omega) (by omega) fun H1 kvs1 k1 hd1 me1 => ?_
  have p1 := p.byD k1 hd1 me1
  repeat walk_at "mst"
  refine use_wins (s := 1) p1.M p.Y.G hd1 me1 p.z.1 hk (by decide) (by omega) (by omega) fun H2 kvs2 k2 hd2 me2 => ?_
  have p2 := p1.byD k2 hd2 me2
  repeat walk_at "mst"
  refine k_cut (fun σ' H' => H' = H2 ∧ σ' = [some (.ref a), some (.ref m), some (.ref np), some (.ref d), some (.int (k : Int)), some (.bl (winG G 0 k)), some (.bl (winG G 1 k)), some (.str (outc (winG G 0 k) (winG G 1 k))), none]) ?_ ?_
  · cases h0 : winG G 0 k <;> cases h1 : winG G 1 k
    all_goals repeat walk_at "mst"
    all_goals exact ⟨rfl, rfl⟩
  · rintro σ' H' ⟨rfl, rfl⟩
    obtain ⟨n, ng, A⟩ := id p2.A
    repeat walk_at "mst"
    refine ⟨a, dx, _, rfl, A.ins, ofs_no _ _ _ (by decide +kernel) (by decide +kernel) (by decide +kernel), ?_⟩
    repeat walk_at "mst"
    refine k_ixL (k_sq p2.hn) (nums_at (by omega) (by omega)) ?_
    repeat walk_at "mst"
    refine use_outcome (k := k) p2.Y A ng (by omega) hk fun H3 k3 Y3 A3 => ?_
    have p3 := p2.byO k3 Y3 (Nat.le_refl _) A3
    repeat walk_at "mst"
    refine k_isi (cls_ty "str") (.base (.str _)) (kit_ty (b := "str") (r := true) (by decide +kernel)) ?_
    repeat walk_at "mst"
    refine k_eqStrL ?_
    rw [decide_eq_true rfl]
    exact q H3 (fun c o z n1 n2 n3 => k3 _ _ (k2 _ _ (k1 _ _ z n3) n3) n1 n2) p3
theorem use_loutcome {P : Program} {w : World} {K : PySem.W.Frag} {Z : Addr → Prop} {F : Foot} {G : List Pr} {hs : List Int} {ts : List (Key × V)} {a dx wn dw wl wr sm m np d : Addr} {H : Hp} {Q : VK} {E : XK} {k : Nat} (p : Play P w K Z F G hs ts a dx wn dw wl wr sm m np d H) (hk : k < G.length)
    (q : ∀ H', (∀ c o, H c = some o → c ≠ wl → c ≠ wr → c ≠ d → H' c = some o) → Play P w K Z F G hs ts a dx wn dw wl wr sm m np d H' → Q (.bl true) H') : sp_law_outcome P w K ([.ref a, .ref m, .ref np, .ref d, .int (k : Int)] ++ []) H Q E := ⟨Z, F, G, hs, ts, a, dx, wn, dw, wl, wr, sm, m, np, d, k, rfl, p, hk, q⟩
def sp_other_side (K : PySem.W.Frag) : Sp := fun vs H Q _ => ∃ s : Str, vs = [.str s] ∧ Q (.str (if s = "left" then "right" else "left")) H
theorem k_eqStrO {H : Hp} {Q : VK} {a b : Str} (q : Q (.bl (decide (a = b))) H) : rEq (.str a) (.str b) H Q := ⟨rfl, by
  have e : decide (V.str a = V.str b) = decide (a = b) := decide_eq_decide.mpr ⟨fun h => V.str.inj h, fun h => by rw [h]⟩
  rw [e]; exact q⟩
abbrev N_other_side : List Str := ["side"]
def t_other_side (K : PySem.W.Frag) (E : XK) : TS := (tRet (tIf (tTest (tOp rEq (tVar 0) (tC (.str "left")))) (tC (.str "right")) (tC (.str "left"))))
theorem len_other_side {K : PySem.W.Frag} {vs : List V} {H : Hp} {Q : VK} {E : XK} (h : sp_other_side K vs H Q E) : vs.length = 1 := by
  obtain ⟨_, rfl, _⟩ := h; rfl
theorem pure_other_side {K : PySem.W.Frag} (vs : List V) (H : Hp) (Q : VK) (E : XK) (h : sp_other_side K vs H Q E) : t_other_side K E { nx := fun _ H' => Q .non H', rt := Q } (start N_other_side vs) H := by
  obtain ⟨s, rfl, q⟩ := h
  unfold t_other_side
  repeat walk_at "mst"
  refine k_eqStrO ?_
  repeat walk_at "mst"
  refine k_iteD (fun e => ?_) (fun e => ?_)
  · repeat walk_at "mst"
    rw [if_pos e] at q
    exact q
  · repeat walk_at "mst"
    rw [if_neg e] at q
    exact q
theorem use_other {K : PySem.W.Frag} {H : Hp} {Q : VK} {E : XK} {s : Str} (q : Q (.str (if s = "left" then "right" else "left")) H) : sp_other_side K ([.str s] ++ []) H Q E := ⟨s, rfl, q⟩
def sp_Yard_m_options (P : Program) (w : World) (K : PySem.W.Frag) : Sp := fun vs H Q _ => ∃ (F : Foot) (G : List Pr) (hs : List Int) (ts : List (Key × V)) (k : Nat) (g : Pr) (s : Str), vs = [.ref F.y, .int k, .str s] ∧ YardAt P w K H F G hs ts ∧ G[k]? = some g ∧
  ∀ p H', H p = none → Ex H H' → H' p = some (.lst ((if s = "left" then g.1 else g.2).map V.int)) → Q (.ref p) H'
abbrev N_Yard_m_options : List Str := ["self", "game", "side"]
def t_Yard_m_options (P : Program) (w : World) (K : PySem.W.Frag) (E : XK) : TS := (tSeq (tIfS (tTest (tOp rEq (tVar 2) (tC (.str "left")))) (tRet (tMeth (He.ga K "Yard") "lefts" (sp_Yard_m_lefts P w K) [] E0 (tVar 0) (tCons (tVar 1) tNil))) tNext) (tRet (tMeth (He.ga K "Yard") "rights" (sp_Yard_m_rights P w K) [] E0 (tVar 0) (tCons (tVar 1) tNil))))
theorem len_Yard_m_options {P : Program} {w : World} {K : PySem.W.Frag} {vs : List V} {H : Hp} {Q : VK} {E : XK} (h : sp_Yard_m_options P w K vs H Q E) : vs.length = 3 := by
  obtain ⟨_, _, _, _, _, _, _, rfl, _⟩ := h; rfl
theorem k_eqStr {H : Hp} {Q : VK} {a b : Str} (q : Q (.bl (decide (a = b))) H) : rEq (.str a) (.str b) H Q := ⟨rfl, by
  have e : decide (V.str a = V.str b) = decide (a = b) := decide_eq_decide.mpr ⟨fun h => V.str.inj h, fun h => by rw [h]⟩
  rw [e]; exact q⟩
theorem pure_Yard_m_options {P : Program} {w : World} {K : PySem.W.Frag} (vs : List V) (H : Hp) (Q : VK) (E : XK) (h : sp_Yard_m_options P w K vs H Q E) : t_Yard_m_options P w K E { nx := fun _ H' => Q .non H', rt := Q } (start N_Yard_m_options vs) H := by
  obtain ⟨F, G, hs, ts, k, g, s, rfl, Y, hk, q⟩ := h
  unfold t_Yard_m_options
  repeat walk_at "mst"
  refine k_eqStr ?_
  repeat walk_at "mst"
  refine k_iteD (fun h => ?_) (fun h => ?_)
  · rw [if_pos h] at q
    repeat walk_at "mst"
    refine Y.meth (by decide +kernel) (by decide +kernel) (by decide +kernel) (by decide +kernel) (by decide +kernel) ?_
    repeat walk_at "mst"
    exact use_lefts Y hk q
  · rw [if_neg h] at q
    repeat walk_at "mst"
    refine Y.meth (by decide +kernel) (by decide +kernel) (by decide +kernel) (by decide +kernel) (by decide +kernel) ?_
    repeat walk_at "mst"
    exact use_rights Y hk q
theorem use_options {P : Program} {w : World} {K : PySem.W.Frag} {H : Hp} {Q : VK} {E : XK} {F : Foot} {G : List Pr} {hs : List Int} {ts : List (Key × V)} {k : Nat} {g : Pr} {s : Str} (Y : YardAt P w K H F G hs ts) (hk : G[k]? = some g) (q : ∀ p H', H p = none → Ex H H' → H' p = some (.lst ((if s = "left" then g.1 else g.2).map V.int)) → Q (.ref p) H') :
    sp_Yard_m_options P w K (.ref F.y :: ([.int (k : Int), .str s] ++ [])) H Q E := ⟨F, G, hs, ts, k, g, s, rfl, Y, hk, q⟩
def sdw (s : Nat) : Str := if s = 0 then "left" else "right"
theorem sdw_or (s : Nat) : sdw s = "left" ∨ sdw s = "right" := by
  unfold sdw
  split
  · exact Or.inl rfl
  · exact Or.inr rfl
theorem sdw_at {s : Nat} (h : s < 2) : [V.str "left", V.str "right"][s]? = some (V.str (sdw s)) := by
  have : s = 0 ∨ s = 1 := by omega
  rcases this with rfl | rfl <;> rfl
theorem sdw_is {s : Nat} (h : s < 2) : (if sdw s = ("left" : Str) then 0 else 1) = s := by
  have : s = 0 ∨ s = 1 := by omega
  rcases this with rfl | rfl <;> decide +kernel
theorem sdw_foe {s : Nat} (h : s < 2) : (if sdw s = ("left" : Str) then ("right" : Str) else "left") = sdw (1 - s) := by
  have : s = 0 ∨ s = 1 := by omega
  rcases this with rfl | rfl <;> decide +kernel
theorem sdw_opt {s : Nat} (h : s < 2) (g : Pr) : (if sdw s = ("left" : Str) then g.1 else g.2) = optG g s := by
  have : s = 0 ∨ s = 1 := by omega
  unfold optG
  rcases this with rfl | rfl
  · rw [if_pos (show sdw 0 = "left" from rfl), if_pos rfl]
  · rw [if_neg (show ¬ sdw 1 = "left" by decide +kernel), if_neg (by decide)]
theorem wf_map (p : Int → Bool) : ∀ l : List Int, (l.map V.int).filter (wf p) = (l.filter p).map V.int
  | [] => rfl
  | a :: l => by
    have ih := wf_map p l
    have e : wf p (V.int a) = p a := rfl
    cases h : p a with
    | false => rw [List.map_cons, List.filter_cons_of_neg (by rw [e, h]; decide), List.filter_cons_of_neg (by rw [h]; decide), ih]
    | true => rw [List.map_cons, List.filter_cons_of_pos (by rw [e, h]), List.filter_cons_of_pos h, ih, List.map_cons]
/-- the options that the other side does not win -/
def winO (G : List Pr) (s : Nat) (g : Pr) : List Int := (optG g s).filter fun o => !(winG G (1 - s) o.toNat)
theorem opt_len {G : List Pr} (f : Forms G) {k s : Nat} {g : Pr} (h : G[k]? = some g) : (optG g s).length ≤ k := by
  obtain ⟨a1, a2⟩ := f.asc k g h
  unfold optG
  split
  · exact a1.len
  · exact a2.len
theorem opt_pw {G : List Pr} (f : Forms G) {k s : Nat} {g : Pr} (h : G[k]? = some g) : (optG g s).Pairwise (· < ·) := by
  obtain ⟨a1, a2⟩ := f.asc k g h
  unfold optG
  split
  · exact a1.1
  · exact a2.1
theorem OrAt.kep {K : PySem.W.Frag} {H H' : Hp} {F : Foot} {a dx wn dw wl wr sm : Addr} {G : List Pr} {n : Nat} (A : OrAt K H F a dx wn dw wl wr sm G n) (k : ∀ c o, H c = some o → c = a ∨ c = wn ∨ c = wl ∨ c = wr → H' c = some o) : OrAt K H' F a dx wn dw wl wr sm G n :=
  ⟨k _ _ A.ins (by simp), A.wn.keep fun c o z h => k c o z (by rcases h with h | h | h <;> simp [h]), A.ol, A.or_⟩
def sp_Order_m_winning (P : Program) (w : World) (K : PySem.W.Frag) : Sp := fun vs H Q _ => ∃ (F : Foot) (G : List Pr) (hs : List Int) (ts : List (Key × V)) (a dx wn dw wl wr sm : Addr) (n k s : Nat) (g : Pr), vs = [.ref a, .int (k : Int), .str (sdw s)] ∧ YardAt P w K H F G hs ts ∧ OrAt K H F a dx wn dw wl wr sm G n ∧ n ≤ G.length ∧ G.length ≤ 1000 ∧ G[k]? = some g ∧ s < 2 ∧
  ∀ D H' n', H D = none → (∀ c o, H c = some o → c ≠ wl → c ≠ wr → H' c = some o) → YardAt P w K H' F G hs ts → n' ≤ G.length → OrAt K H' F a dx wn dw wl wr sm G n' → H' D = some (.lst ((winO G s g).map V.int)) → Q (.ref D) H'
local macro_rules | `(tactic| walk_at "mlk") => `(tactic| first | exact ofs_y _ _ _ | exact ofs_w _ _ _)
abbrev N_Order_m_winning : List Str := ["self", "game", "side", "foe", "option"]
def t_Order_m_winning (P : Program) (w : World) (K : PySem.W.Frag) (E : XK) : TS := (tSeq (tAsg (tCall (sp_other_side K) [] E0 (tCons (tVar 2) tNil)) (gName 3)) (tRet (tLc (iList K (tMeth (He.ga K "Yard") "options" (sp_Yard_m_options P w K) [] E0 (tFld K (tVar 0) "_yard") (tCons (tVar 1) (tCons (tVar 2) tNil)))) (gName 4) (tNot (tB (tMeth (He.ga K "Order") "can_win" (sp_Order_m_can_win P w K) [] E0 (tVar 0) (tCons (tVar 4) (tCons (tVar 3) tNil))))) (tVar 4) [4])))
theorem len_Order_m_winning {P : Program} {w : World} {K : PySem.W.Frag} {vs : List V} {H : Hp} {Q : VK} {E : XK} (h : sp_Order_m_winning P w K vs H Q E) : vs.length = 3 := by
  obtain ⟨_, _, _, _, _, _, _, _, _, _, _, _, _, _, _, rfl, _⟩ := h; rfl
theorem pure_Order_m_winning {P : Program} {w : World} {K : PySem.W.Frag} (F0 : FOrder K) (vs : List V) (H : Hp) (Q : VK) (E : XK) (h : sp_Order_m_winning P w K vs H Q E) : t_Order_m_winning P w K E { nx := fun _ H' => Q .non H', rt := Q } (start N_Order_m_winning vs) H := by
  obtain ⟨F, G, hs, ts, a, dx, wn, dw, wl, wr, sm, n, k, s, g, rfl, Y, A, ng, few, hg, hS, q⟩ := h
  obtain ⟨cl, n1, n2, n3⟩ := F0
  have hi := A.ins
  unfold t_Order_m_winning
  repeat walk_at "mst"
  refine use_other ?_
  rw [sdw_foe hS]
  repeat walk_at "mst"
  refine Y.meth (m := "options") (by decide +kernel) (by decide +kernel) (by decide +kernel) (by decide +kernel) (by decide +kernel) ?_
  repeat walk_at "mst"
  refine use_options Y hg fun p H1 np e1 hp => ?_
  rw [sdw_opt hS] at hp
  have hl1 := e1 _ _ A.wn.hl
  have hr1 := e1 _ _ A.wn.hr
  have npl : p ≠ wl := (ne_of_none A.wn.hl np).symm
  have npr : p ≠ wr := (ne_of_none A.wn.hr np).symm
  have kl : k < G.length := (List.getElem?_eq_some_iff.mp hg).1
  have asc := opt_asc Y.G (s := s) hg
  have ol := opt_len Y.G (s := s) hg
  have lenO : (optG g s).length < sizeLine := Nat.lt_of_le_of_lt (show _ ≤ 1000 by omega) (by decide)
  have Y1 := Y.ex e1
  have A1 : OrAt K H1 F a dx wn dw wl wr sm G n := A.kep fun c o z _ => e1 c o z
  have yk : ∀ H' n', (∀ c o, H1 c = some o → c ≠ wl → c ≠ wr → H' c = some o) → OrAt K H' F a dx wn dw wl wr sm G n' → YardAt P w K H' F G hs ts := fun H' n' kp A' => Y1.two hl1 hr1 A.ol A.or_ A.wn.lr ⟨_, A'.wn.hl⟩ kp
  repeat walk_at "mst"
  refine ⟨p, rfl, ⟨_, k_sq hp⟩, ?_⟩
  refine lcR_fs (fun H' => ∃ n', (∀ c o, H1 c = some o → c ≠ wl → c ≠ wr → H' c = some o) ∧ n' ≤ G.length ∧ OrAt K H' F a dx wn dw wl wr sm G n') (wf fun o => !(winG G (1 - s) o.toNat)) (fun H' ⟨n', kp, _⟩ => k_sq (kp _ _ hp npl npr)) (by rw [List.length_map]; exact lenO) ?_ ⟨n, fun c o z _ _ => z, ng, A1⟩ ?_ ?_
  · rintro D Ha Hb hD k2 ⟨n', kp, ng', A'⟩
    refine ⟨n', fun c o z m1 m2 => k2 _ _ (kp _ _ z m1 m2) (ne_of_none z hD), ng', A'.kep fun c o z h => k2 _ _ z ?_⟩
    rcases h with rfl | rfl | rfl | rfl
    · exact ne_of_none A1.ins hD
    · exact ne_of_none A1.wn.ins hD
    · exact ne_of_none A1.wn.hl hD
    · exact ne_of_none A1.wn.hr hD
  · rintro x Ha D ys hD hy mx ⟨n', kp, ng', A'⟩ R r
    obtain ⟨o, mo, rfl⟩ := List.mem_map.mp mx
    obtain ⟨o0, ok⟩ := asc o mo
    obtain ⟨o', rfl⟩ : ∃ o' : Nat, o = o' := ⟨o.toNat, by omega⟩
    have Ya := yk _ _ kp A'
    repeat walk_at "mst"
    refine ⟨a, dx, _, rfl, A'.ins, ofs_no _ _ _ (by decide +kernel) (by decide +kernel) (by decide +kernel), ?_⟩
    repeat walk_at "mst"
    refine use_ocan (k := o') Ya A' ng' few (by omega) (sdw_or (1 - s)) fun Hb k3 Y3 A3 => ?_
    rw [sdw_is (show 1 - s < 2 by omega)]
    exact ⟨_, rfl, r Hb (k3 _ _ hy (ne_of_none A1.wn.hl hD).symm (ne_of_none A1.wn.hr hD).symm) ⟨_, fun c o z m1 m2 => k3 _ _ (kp _ _ z m1 m2) m1 m2, Nat.le_refl _, A3⟩⟩
  · rintro D Ha hD h2 ⟨n', kp, ng', A'⟩
    rw [wf_map] at h2
    repeat walk_at "mst"
    exact q D Ha n' (Evl.fresh_back e1 hD) (fun c o z m1 m2 => kp _ _ (e1 _ _ z) m1 m2) (yk _ _ kp A') ng' A' h2
theorem use_winning {P : Program} {w : World} {K : PySem.W.Frag} {H : Hp} {Q : VK} {E : XK} {F : Foot} {G : List Pr} {hs : List Int} {ts : List (Key × V)} {a dx wn dw wl wr sm : Addr} {n k s : Nat} {g : Pr} (Y : YardAt P w K H F G hs ts) (A : OrAt K H F a dx wn dw wl wr sm G n) (ng : n ≤ G.length) (few : G.length ≤ 1000) (hg : G[k]? = some g) (hS : s < 2)
    (q : ∀ D H' n', H D = none → (∀ c o, H c = some o → c ≠ wl → c ≠ wr → H' c = some o) → YardAt P w K H' F G hs ts → n' ≤ G.length → OrAt K H' F a dx wn dw wl wr sm G n' → H' D = some (.lst ((winO G s g).map V.int)) → Q (.ref D) H') : sp_Order_m_winning P w K (.ref a :: ([.int (k : Int), .str (sdw s)] ++ [])) H Q E := ⟨F, G, hs, ts, a, dx, wn, dw, wl, wr, sm, n, k, s, g, rfl, Y, A, ng, few, hg, hS, q⟩
/-- thing: an int -/
def sp_law_is_integer (K : PySem.W.Frag) : Sp := spR (fun vs H => ∃ i : Int, vs = [.int i]) (fun vs H v H' => v = .bl true ∧ H' = H)
abbrev N_law_is_integer : List Str := ["thing"]
def t_law_is_integer (K : PySem.W.Frag) (E : XK) : TS := (tRet (tAndV (tCB (rIsi K) (tCons (tVar 0) (tCons (tC (.ty "int")) tNil))) (tNotV (tCB (rIsi K) (tCons (tVar 0) (tCons (tC (.ty "bool")) tNil))))))
theorem len_law_is_integer {K : PySem.W.Frag} {vs : List V} {H : Hp} {Q : VK} {E : XK} (h : sp_law_is_integer K vs H Q E) : vs.length = 1 := by
  obtain ⟨⟨_, rfl⟩, _⟩ := h; rfl
theorem pure_law_is_integer {K : PySem.W.Frag} (vs : List V) (H : Hp) (Q : VK) (E : XK) (h : sp_law_is_integer K vs H Q E) : t_law_is_integer K E { nx := fun _ H' => Q .non H', rt := Q } (start N_law_is_integer vs) H := by
  obtain ⟨⟨i, rfl⟩, q⟩ := h
  unfold t_law_is_integer
  repeat walk_at "mst"
  exact q _ _ ⟨rfl, rfl⟩
theorem use_is_integer {K : PySem.W.Frag} {H : Hp} {Q : VK} {E : XK} {i : Int} (q : Q (.bl true) H) : sp_law_is_integer K ([.int i] ++ []) H Q E :=
  ⟨⟨i, rfl⟩, fun _ _ ⟨e, e'⟩ => by rw [e, e']; exact q⟩
local macro_rules | `(tactic| walk_at "mst") => `(tactic| with_reducible refine use_is_integer ?_)
def sp_law_all_integers (K : PySem.W.Frag) : Sp := fun vs H Q _ => ∃ (p : Addr) (ns : List Int), vs = [.ref p] ∧ SqL K H p (ns.map V.int) ∧ ns.length ≤ 1000 ∧ ∀ H', Ex H H' → Q (.bl true) H'
abbrev N_law_all_integers : List Str := ["numbers", "number"]
def t_law_all_integers (K : PySem.W.Frag) (E : XK) : TS := (tRet (tOp rEq (tCB (rLenQ K) (tCons (tLc (iList K (tVar 0)) (gName 1) (tNot (tB (tCall (sp_law_is_integer K) [] E0 (tCons (tVar 1) tNil)))) (tVar 1) [1]) tNil)) (tC (.int 0))))
theorem len_law_all_integers {K : PySem.W.Frag} {vs : List V} {H : Hp} {Q : VK} {E : XK} (h : sp_law_all_integers K vs H Q E) : vs.length = 1 := by
  obtain ⟨_, _, rfl, _⟩ := h; rfl
theorem pure_law_all_integers {K : PySem.W.Frag} (vs : List V) (H : Hp) (Q : VK) (E : XK) (h : sp_law_all_integers K vs H Q E) : t_law_all_integers K E { nx := fun _ H' => Q .non H', rt := Q } (start N_law_all_integers vs) H := by
  obtain ⟨p, ns, rfl, hp, few, q⟩ := h
  unfold t_law_all_integers
  repeat walk_at "mst"
  refine ⟨p, rfl, ⟨_, hp⟩, lcR_list (K := K) (fun v => if false = true then some v else none) hp (by rw [List.length_map]; exact Nat.lt_of_le_of_lt few (by decide)) (fun x hx => ?_) fun D1 H1 nD1 e1 hD1 => ?_⟩
  · obtain ⟨k, hk, rfl⟩ := List.mem_map.mp hx
    refine turn_flt (b := false) fun H'' e R r => ?_
    repeat walk_at "mst"
    exact r
  · have z : (ns.map V.int).filterMap (fun v => if false = true then some v else none) = [] := by
      rw [List.filterMap_eq_nil_iff]
      intro a _
      rfl
    rw [z] at hD1
    repeat walk_at "mst"
    exact q H1 e1
theorem use_all_integers {K : PySem.W.Frag} {H : Hp} {Q : VK} {E : XK} {p : Addr} {ns : List Int} (h : SqL K H p (ns.map V.int)) (few : ns.length ≤ 1000) (q : ∀ H', Ex H H' → Q (.bl true) H') : sp_law_all_integers K ([.ref p] ++ []) H Q E := ⟨p, ns, rfl, h, few, q⟩
def sp_law_is_list (K : PySem.W.Frag) : Sp := fun vs H Q _ => ∃ (p d : Addr) (ns : List Int), vs = [.ref p, .ref d] ∧ H p = some (.lst (ns.map V.int)) ∧ SqL K H d (ns.map V.int) ∧ ns.length ≤ 1000 ∧ ∀ H', Ex H H' → Q (.bl true) H'
abbrev N_law_is_list : List Str := ["told", "due"]
def t_law_is_list (K : PySem.W.Frag) (E : XK) : TS := (tRet (tAndV (tCB (rIsi K) (tCons (tVar 0) (tCons (tC (.ty "list")) tNil))) (tAndV (tCall (sp_law_all_integers K) [] E0 (tCons (tVar 0) tNil)) (tOp (rEqD K) (tVar 0) (tVar 1)))))
theorem len_law_is_list {K : PySem.W.Frag} {vs : List V} {H : Hp} {Q : VK} {E : XK} (h : sp_law_is_list K vs H Q E) : vs.length = 2 := by
  obtain ⟨_, _, _, rfl, _⟩ := h; rfl
theorem pure_law_is_list {K : PySem.W.Frag} (vs : List V) (H : Hp) (Q : VK) (E : XK) (h : sp_law_is_list K vs H Q E) : t_law_is_list K E { nx := fun _ H' => Q .non H', rt := Q } (start N_law_is_list vs) H := by
  obtain ⟨p, d, ns, rfl, hp, hd, few, q⟩ := h
  unfold t_law_is_list
  repeat walk_at "mst"
  refine k_isi (cls_ty "list") (.base (.lst hp)) (kit_ty (b := "list") (r := true) (by decide +kernel)) ?_
  repeat walk_at "mst"
  refine use_all_integers (k_sq hp) few fun H1 e1 => ?_
  repeat walk_at "mst"
  refine k_eqIs (k_sq (e1 _ _ hp)) (Evl.ex_l e1 hd) ?_
  rw [decide_eq_true rfl]
  exact q H1 e1
theorem use_is_list {K : PySem.W.Frag} {H : Hp} {Q : VK} {E : XK} {p d : Addr} {ns : List Int} (h : H p = some (.lst (ns.map V.int))) (h2 : SqL K H d (ns.map V.int)) (few : ns.length ≤ 1000) (q : ∀ H', Ex H H' → Q (.bl true) H') : sp_law_is_list K ([.ref p, .ref d] ++ []) H Q E := ⟨p, d, ns, rfl, h, h2, few, q⟩
/-- a filter whose test changes the heap, with an item that gives the member -/
theorem lcR_fm {tt : TT} {te : TE} {σ : L2.St} {Q : VK} {H1 : Hp} {K : PySem.W.Frag} {a : Addr} {xs : List V} {i : Nat} (St : Hp → Prop) (f : V → Bool) (hS : ∀ H, St H → SqL K H a xs) (len : xs.length < sizeLine)
    (mu : ∀ D H H', H1 D = none → (∀ c o, H c = some o → c ≠ D → H' c = some o) → St H → St H') (h1 : St H1)
    (hs : ∀ x H D ys, H1 D = none → H D = some (.lst ys) → x ∈ xs → St H → ∀ R : Bool → Hp → Prop, (∀ H', H' D = some (.lst ys) → St H' → R (f x) H') → tt ((wipe σ [i]).set i (some x)) H R)
    (ht : ∀ x H, x ∈ xs → St H → ∀ R : VK, R x H → te ((wipe σ [i]).set i (some x)) H R)
    (q : ∀ D H', H1 D = none → H' D = some (.lst (xs.filter f)) → St H' → Q (.ref D) H') (w : ∀ x, wipe ((wipe σ [i]).set i (some x)) [i] = wipe σ [i] := by intro x; rfl) : lcR (gName i) tt te [i] σ Q (Itl K a) H1 := by
  intro D hD
  refine lc_list (K := K) (a := a) (xs := xs) (fun n H => H D = some (.lst ((xs.take n).filter f)) ∧ St H) ⟨upd_same, mu D H1 _ hD (fun c o z n => (upd_ne n).trans z) h1⟩ (fun n H _ ⟨_, s⟩ => hS H s) (fun n x H hx ⟨hd, s⟩ => ?_) (fun H ⟨hd, s⟩ => q D H hD (by rw [hd, List.take_of_length_le (Nat.le_refl _)]) s)
  refine ⟨w x, hs x H D _ hD hd (List.mem_of_getElem? hx) s _ fun H' h' s' => ?_⟩
  cases hf : f x with
  | false =>
    rw [if_neg (by decide)]
    refine ⟨?_, s'⟩
    rw [h', List.take_add_one, hx, List.filter_append]
    simp [hf]
  | true =>
    rw [if_pos rfl]
    refine ht x H' (List.mem_of_getElem? hx) s' _ ⟨_, h', ?_, ?_, mu D H' _ hD (fun c o z n => (upd_ne n).trans z) s'⟩
    · refine Nat.lt_of_le_of_lt (Nat.le_trans (List.length_filter_le _ _) ?_) len
      rw [List.length_take]; omega
    · rw [upd_same, List.take_add_one, hx, List.filter_append]
      simp [hf]
def sp_law_moves (P : Program) (w : World) (K : PySem.W.Frag) : Sp := fun vs H Q _ => ∃ (Z : Addr → Prop) (F : Foot) (G : List Pr) (hs : List Int) (ts : List (Key × V)) (a dx wn dw wl wr sm m np d : Addr) (k s : Nat), vs = [.ref a, .ref m, .ref np, .ref d, .int (k : Int), .int (s : Int)] ∧ Play P w K Z F G hs ts a dx wn dw wl wr sm m np d H ∧ k < G.length ∧ s < 2 ∧
  ∀ H', (∀ c o, H c = some o → c ≠ wl → c ≠ wr → c ≠ d → H' c = some o) → Play P w K Z F G hs ts a dx wn dw wl wr sm m np d H' → Q (.bl true) H'
local macro_rules | `(tactic| walk_at "new") => `(tactic| ((first | refine ⟨fits (Nat.le_of_ble_eq_true rfl), ?_⟩ | skip); intro p np; generalize hq : upd _ p _ = H1; have e1 := nx np hq; have s1 := nS hq; clear hq))
abbrev N_law_moves : List Str := ["order", "model", "numbers", "known", "at", "side", "due", "k", "word", "told"]
def t_law_moves (P : Program) (w : World) (K : PySem.W.Frag) (E : XK) : TS := (tSeq (tAsg (tCB (rSortedI K) (tCons (tLc (iList K (tOp (rIxT K) (tOp (rIxL K) (tVar 1) (tVar 4)) (tVar 5))) (gName 7) (tNot (tB (tCall (sp_law_wins K 25) [] E0 (tCons (tVar 1) (tCons (tVar 3) (tCons (tVar 7) (tCons (tOp rSubI (tC (.int 1)) (tVar 5)) tNil))))))) (tOp (rIxL K) (tVar 2) (tVar 7)) [7]) tNil)) (gName 6)) (tSeq (tAsg (tOp (rIxL K) (tLst (tCons (tC (.str "left")) (tCons (tC (.str "right")) tNil))) (tVar 5)) (gName 8)) (tSeq (tAsg (tMeth (He.ga K "Order") "winning" (sp_Order_m_winning P w K) [] E0 (tVar 0) (tCons (tOp (rIxL K) (tVar 2) (tVar 4)) (tCons (tVar 8) tNil))) (gName 9)) (tSeq (tIfS (tNot (tB (tCall (sp_law_is_list K) [] E0 (tCons (tVar 9) (tCons (tVar 6) tNil))))) (tRet (tC (.bl false))) tNext) (tSeq (tDrop (tBM K "list" rAppend (tVar 9) (tCons (tOp (rIxL K) (tVar 2) (tVar 4)) tNil))) (tSeq (tDrop (tBM0 K "list" rReverse (tVar 9))) (tRet (tCall (sp_law_is_list K) [] E0 (tCons (tMeth (He.ga K "Order") "winning" (sp_Order_m_winning P w K) [] E0 (tVar 0) (tCons (tOp (rIxL K) (tVar 2) (tVar 4)) (tCons (tVar 8) tNil))) (tCons (tVar 6) tNil))))))))))
theorem len_law_moves {P : Program} {w : World} {K : PySem.W.Frag} {vs : List V} {H : Hp} {Q : VK} {E : XK} (h : sp_law_moves P w K vs H Q E) : vs.length = 6 := by
  obtain ⟨_, _, _, _, _, _, _, _, _, _, _, _, _, _, _, _, _, rfl, _⟩ := h; rfl
theorem pure_law_moves {P : Program} {w : World} {K : PySem.W.Frag} (vs : List V) (H : Hp) (Q : VK) (E : XK) (h : sp_law_moves P w K vs H Q E) : t_law_moves P w K E { nx := fun _ H' => Q .non H', rt := Q } (start N_law_moves vs) H := by
  obtain ⟨Z, F, G, hs, ts, a, dx, wn, dw, wl, wr, sm, m, np, d, k, s, rfl, p, hk, hS, q⟩ := h
  have few := p.few
  obtain ⟨kvs, hd, me⟩ := id p.hd
  obtain ⟨xm, hm, fm⟩ := id p.M
  obtain ⟨n0, ng0, A0⟩ := id p.A
  have zz := p.z
  obtain ⟨g, hg⟩ : ∃ g, G[k]? = some g := ⟨_, List.getElem?_eq_getElem hk⟩
  obtain ⟨t, ht, c0, c1, hf, h0, h1, z0, z1⟩ := fm.2 k g hg
  obtain ⟨c, hc, hl, zc⟩ : ∃ c, [V.ref c0, V.ref c1][s]? = some (V.ref c) ∧ H c = some (.lst ((optG g s).map V.int)) ∧ ¬ Z c := by
    have : s = 0 ∨ s = 1 := by omega
    rcases this with rfl | rfl
    · exact ⟨c0, rfl, h0, z0⟩
    · exact ⟨c1, rfl, h1, z1⟩
  have ncd : c ≠ d := fun h => zc (h ▸ zz.1)
  have asc := opt_asc p.Y.G (s := s) hg
  have ol := opt_len p.Y.G (s := s) hg
  have wlen : (winO G s g).length ≤ 1000 := Nat.le_trans (List.length_filter_le _ _) (by omega)
  have wpw : (winO G s g).Pairwise (· < ·) := List.Pairwise.filter _ (opt_pw p.Y.G hg)
  have hnd : np ≠ d := ne_of p.hn hd (by intro y; cases y)
  have hmd : m ≠ d := ne_of hm hd (by intro y; cases y)
  unfold t_law_moves
  repeat walk_at "mst"
  refine k_ixL (k_sq hm) (atI_nat ht) ?_
  repeat walk_at "mst"
  refine k_ixT (k_st hf) (atI_nat hc) ?_
  repeat walk_at "mst"
  refine ⟨c, rfl, ⟨_, k_sq hl⟩, ?_⟩
  refine lcR_fm (fun H' => ∃ kvs', (∀ c o, H c = some o → c ≠ d → H' c = some o) ∧ H' d = some (.dT kvs') ∧ Memo G kvs') (wf fun o => !(winG G (1 - s) o.toNat)) (fun H' ⟨kvs', kp, _⟩ => k_sq (kp _ _ hl ncd)) (by rw [List.length_map]; exact Nat.lt_of_le_of_lt (show _ ≤ 100 by omega) (by decide)) ?_ ⟨kvs, fun c o z _ => z, hd, me⟩ ?_ ?_ ?_
  · rintro D Ha Hb hD k2 ⟨kvs', kp, h2, me2⟩
    exact ⟨kvs', fun c o z n => k2 _ _ (kp _ _ z n) (ne_of_none z hD), k2 _ _ h2 (ne_of_none hd hD), me2⟩
  · rintro x Ha D ys hD hy mx ⟨kvs', kp, h2, me2⟩ R r
    obtain ⟨o, mo, rfl⟩ := List.mem_map.mp mx
    obtain ⟨o0, ok⟩ := asc o mo
    have pa := p.byD kp h2 me2
    repeat walk_at "mst"
    obtain ⟨o', rfl⟩ : ∃ o' : Nat, o = o' := ⟨o.toNat, by omega⟩
    have es : (1 : Int) - (s : Int) = ((1 - s : Nat) : Int) := by omega
    rw [es]
    exact use_wins pa.M p.Y.G h2 me2 zz.1 (by omega) (by omega) (by omega) (by omega) fun Hb kvs3 k3 hd3 me3 => ⟨_, rfl, r Hb (k3 _ _ hy (ne_of_none hd hD).symm) ⟨kvs3, fun c o z n => k3 _ _ (kp _ _ z n) n, hd3, me3⟩⟩
  · rintro x Ha mx ⟨kvs', kp, h2, me2⟩ R r
    obtain ⟨o, mo, rfl⟩ := List.mem_map.mp mx
    obtain ⟨o0, ok⟩ := asc o mo
    repeat walk_at "mst"
    exact k_ixL (k_sq (kp _ _ p.hn hnd)) (nums_at (by omega) (by omega)) r
  · rintro D Ha hD h2 ⟨kvs', kp, hd2, me2⟩
    rw [wf_map] at h2
    change Ha D = some (.lst ((winO G s g).map V.int)) at h2
    have pa := p.byD kp hd2 me2
    repeat walk_at "mst"
    refine k_sortA (k_sq h2) wpw fun u nu => ?_
    have e1 := Evl.Ex.new (o := HO.lst ((winO G s g).map V.int)) nu
    have hu : upd Ha u (HO.lst ((winO G s g).map V.int)) u = some (HO.lst ((winO G s g).map V.int)) := upd_same
    generalize upd Ha u (HO.lst ((winO G s g).map V.int)) = Hb at *
    have pb := pa.ex e1
    repeat walk_at "mst"
    walk_at "new"; rename_i l nl H3 e3 s3
    repeat walk_at "mst"
    refine k_ixL (k_sq s3) (atI_nat (sdw_at hS)) ?_
    have p3 := pb.ex e3
    obtain ⟨n3, ng3, A3⟩ := id p3.A
    have nuw : u ≠ wl ∧ u ≠ wr ∧ u ≠ d := by
      obtain ⟨_, _, Aa⟩ := pa.A
      exact ⟨(ne_of_none Aa.wn.hl nu).symm, (ne_of_none Aa.wn.hr nu).symm, (ne_of_none hd2 nu).symm⟩
    repeat walk_at "mst"
    refine ⟨a, dx, _, rfl, A3.ins, ofs_no _ _ _ (by decide +kernel) (by decide +kernel) (by decide +kernel), ?_⟩
    repeat walk_at "mst"
    refine k_ixL (k_sq p3.hn) (nums_at (by omega) (by omega)) ?_
    repeat walk_at "mst"
    refine use_winning p3.Y A3 ng3 (by omega) hg hS fun v H4 n4 nv k4 Y4 ng4 A4 hv => ?_
    have p4 := p3.byO k4 Y4 ng4 A4
    have hu4 := k4 _ _ (e3 _ _ hu) nuw.1 nuw.2.1
    repeat walk_at "mst"
    refine use_is_list hv (k_sq hu4) wlen fun H5 e5 => ?_
    repeat walk_at "mst"
    have p5 := p4.ex e5
    refine k_ixL (k_sq p5.hn) (nums_at (by omega) (by omega)) ?_
    repeat walk_at "mst"
    · rw [List.length_map]; exact Nat.lt_of_le_of_lt (show _ ≤ 1000 by omega) (by decide)
    have k6 : ∀ c o, H5 c = some o → c ≠ v → upd H5 v (HO.lst ((winO G s g).map V.int ++ [V.int (k : Int)])) c = some o := fun c o z n => (upd_ne n).trans z
    have hv6 : upd H5 v (HO.lst ((winO G s g).map V.int ++ [V.int (k : Int)])) v = some (HO.lst ((winO G s g).map V.int ++ [V.int (k : Int)])) := upd_same
    generalize upd H5 v (HO.lst ((winO G s g).map V.int ++ [V.int (k : Int)])) = H6 at *
    repeat walk_at "mst"
    refine ⟨v, _, rfl, rfl, hv6, ?_⟩
    have k7 : ∀ c o, H6 c = some o → c ≠ v → upd H6 v (HO.lst ((winO G s g).map V.int ++ [V.int (k : Int)]).reverse) c = some o := fun c o z n => (upd_ne n).trans z
    generalize upd H6 v (HO.lst ((winO G s g).map V.int ++ [V.int (k : Int)]).reverse) = H7 at *
    have k57 : ∀ c o, H5 c = some o → c ≠ v → H7 c = some o := fun c o z n => k7 _ _ (k6 _ _ z n) n
    have nvw : wl ≠ v ∧ wr ≠ v := ⟨ne_of_none A3.wn.hl nv, ne_of_none A3.wn.hr nv⟩
    have hv5 := e5 _ _ hv
    have Y7 : YardAt P w K H7 F G hs ts := p5.Y.but hv5 (p3.Y.fresh nv) k57
    have A5 : OrAt K H5 F a dx wn dw wl wr sm G n4 := A4.ke fun c o z _ => e5 c o z
    have A7 : OrAt K H7 F a dx wn dw wl wr sm G n4 := A5.ke fun c o z h => k57 c o z (by
      rcases h with rfl | rfl | rfl | rfl
      · exact ne_of A5.ins hv5 (by intro y; cases y)
      · exact ne_of A5.wn.ins hv5 (by intro y; cases y)
      · exact nvw.1
      · exact nvw.2)
    have k37 : ∀ c o, H3 c = some o → c ≠ wl → c ≠ wr → c ≠ d → H7 c = some o := fun c o z n1 n2 _ => k57 _ _ (e5 _ _ (k4 _ _ z n1 n2)) (ne_of_none z nv)
    have p7 : Play P w K Z F G hs ts a dx wn dw wl wr sm m np d H7 := p3.to k37 Y7 ⟨n4, ng4, A7⟩ (by
      obtain ⟨kv5, hd5, me5⟩ := p5.hd
      exact ⟨kv5, k57 _ _ hd5 (ne_of hv5 hd5 (by intro y; cases y)).symm, me5⟩)
    have hu7 := k37 _ _ (e3 _ _ hu) nuw.1 nuw.2.1 nuw.2.2
    repeat walk_at "mst"
    refine ⟨a, dx, _, rfl, A7.ins, ofs_no _ _ _ (by decide +kernel) (by decide +kernel) (by decide +kernel), ?_⟩
    repeat walk_at "mst"
    refine k_ixL (k_sq p7.hn) (nums_at (by omega) (by omega)) ?_
    repeat walk_at "mst"
    refine use_winning Y7 A7 ng4 (by omega) hg hS fun v2 H8 n8 nv2 k8 Y8 ng8 A8 hv8 => ?_
    have p8 := p7.byO k8 Y8 ng8 A8
    have hu8 := k8 _ _ hu7 nuw.1 nuw.2.1
    repeat walk_at "mst"
    refine use_is_list hv8 (k_sq hu8) wlen fun H9 e9 => ?_
    repeat walk_at "mst"
    exact q H9 (fun c o z n1 n2 n3 => e9 _ _ (k8 _ _ (k37 _ _ (e3 _ _ (e1 _ _ (kp _ _ z n3))) n1 n2 n3) n1 n2)) (p8.ex e9)
theorem use_lmoves {P : Program} {w : World} {K : PySem.W.Frag} {Z : Addr → Prop} {F : Foot} {G : List Pr} {hs : List Int} {ts : List (Key × V)} {a dx wn dw wl wr sm m np d : Addr} {H : Hp} {Q : VK} {E : XK} {k s : Nat} (p : Play P w K Z F G hs ts a dx wn dw wl wr sm m np d H) (hk : k < G.length) (hS : s < 2)
    (q : ∀ H', (∀ c o, H c = some o → c ≠ wl → c ≠ wr → c ≠ d → H' c = some o) → Play P w K Z F G hs ts a dx wn dw wl wr sm m np d H' → Q (.bl true) H') : sp_law_moves P w K ([.ref a, .ref m, .ref np, .ref d, .int (k : Int), .int (s : Int)] ++ []) H Q E := ⟨Z, F, G, hs, ts, a, dx, wn, dw, wl, wr, sm, m, np, d, k, s, rfl, p, hk, hS, q⟩
def sp_law (P : Program) (w : World) (K : PySem.W.Frag) : Sp := spR (fun vs H => ∃ (a : Addr) (ns : List Int), vs = [.ref a] ∧ SqL K H a (ns.map V.int)) (fun _ _ v _ => v = .bl true)
theorem ModAt.add {Z : Addr → Prop} {H : Hp} {m d : Addr} {G : List Pr} (M : ModAt Z H m G) (hd : H d = none) : ModAt (fun c => Z c ∨ c = d) H m G := by
  obtain ⟨xs, hm, l, fs⟩ := M
  refine ⟨xs, hm, l, fun i g h => ?_⟩
  obtain ⟨a, ha, c, e, h1, h2, h3, z1, z2⟩ := fs i g h
  exact ⟨a, ha, c, e, h1, h2, h3, fun y => y.elim z1 (ne_of_none h2 hd), fun y => y.elim z2 (ne_of_none h3 hd)⟩
theorem YardAt.insOff {P : Program} {w : World} {K : PySem.W.Frag} {H : Hp} {F : Foot} {G : List Pr} {hs : List Int} {ts : List (Key × V)} (Y : YardAt P w K H F G hs ts) {c C dx : Addr} {fs : List (Str × V)} (h : H c = some (.ins C dx fs)) : Off F c := by
  obtain ⟨zs, hl, _⟩ := Y.ls
  obtain ⟨ys, hr, _⟩ := Y.rs
  obtain ⟨kvs, hn, _⟩ := Y.ns
  exact ⟨ne_of h hl (by intro z; cases z), ne_of h hr (by intro z; cases z), ne_of h Y.hs.1 (by intro z; cases z), ne_of h hn (by intro z; cases z), ne_of h Y.ts (by intro z; cases z)⟩
theorem OrAt.gr {P : Program} {w : World} {K : PySem.W.Frag} {H H' : Hp} {F : Foot} {a dx wn dw wl wr sm : Addr} {G G2 : List Pr} {hs : List Int} {ts : List (Key × V)} {n : Nat} (A : OrAt K H F a dx wn dw wl wr sm G n) (Y : YardAt P w K H F G2 hs ts) (g : Gr F H H') : OrAt K H' F a dx wn dw wl wr sm G n :=
  A.ke fun c o z h => g c o z (by
    rcases h with rfl | rfl | rfl | rfl
    · exact Y.insOff A.ins
    · exact Y.insOff A.wn.ins
    · exact A.ol
    · exact A.or_)
abbrev N_law : List Str := ["script", "yard", "order", "model", "numbers", "known", "k", "at"]
def t_law (P : Program) (w : World) (K : PySem.W.Frag) (E : XK) : TS := (tSeq (tAsg (tMake (He.ga K "Yard") (sp_Yard_d_init P w K) [] E0 tNil) (gName 1)) (tSeq (tAsg (tMake (He.ga K "Order") (sp_Order_d_init K) [] E0 (tCons (tVar 1) tNil)) (gName 2)) (tSeq (tAsg (tOp (rIxT K) (tCall (sp_law_family K) [] E0 (tCons (tVar 0) (tCons (tC (.int 1)) (tCons (tCall (sp_law_count K) [] E0 (tCons (tCall (sp_law_cell K) [] E0 (tCons (tVar 0) (tCons (tC (.int 0)) tNil))) tNil)) (tCons (tC (.int 8)) tNil))))) (tC (.int 0))) (gName 3)) (tSeq (tAsg (tCall (sp_law_built P w K) [] E0 (tCons (tVar 1) (tCons (tVar 3) tNil))) (gName 4)) (tSeq (tAsg tDNewT (gName 5)) (tSeq (tFor (iRng1 (tCons (tCB (rLenQ K) (tCons (tVar 3) tNil)) tNil)) (gName 6) (tSeq (tAsg (tIf (tTest (tOp rEq (tOp rModI (tCB (rLenQ K) (tCons (tVar 0) tNil)) (tC (.int 2))) (tC (.int 0)))) (tVar 6) (tOp rSubI (tOp rSubI (tCB (rLenQ K) (tCons (tVar 3) tNil)) (tC (.int 1))) (tVar 6))) (gName 7)) (tSeq (tIfS (tNot (tB (tCall (sp_law_outcome P w K) [] E0 (tCons (tVar 2) (tCons (tVar 3) (tCons (tVar 4) (tCons (tVar 5) (tCons (tVar 7) tNil)))))))) (tRet (tC (.bl false))) tNext) (tIfS (tOr (tNot (tB (tCall (sp_law_moves P w K) [] E0 (tCons (tVar 2) (tCons (tVar 3) (tCons (tVar 4) (tCons (tVar 5) (tCons (tVar 7) (tCons (tC (.int 0)) tNil))))))))) (tNot (tB (tCall (sp_law_moves P w K) [] E0 (tCons (tVar 2) (tCons (tVar 3) (tCons (tVar 4) (tCons (tVar 5) (tCons (tVar 7) (tCons (tC (.int 1)) tNil)))))))))) (tRet (tC (.bl false))) tNext)))) (tSeq (tFor (iRng1 (tCons (tCB (rLenQ K) (tCons (tVar 3) tNil)) tNil)) (gName 7) (tIfS (tNot (tB (tCall (sp_law_outcome P w K) [] E0 (tCons (tVar 2) (tCons (tVar 3) (tCons (tVar 4) (tCons (tVar 5) (tCons (tVar 7) tNil)))))))) (tRet (tC (.bl false))) tNext)) (tRet (tC (.bl true))))))))))
theorem len_law {P : Program} {w : World} {K : PySem.W.Frag} {vs : List V} {H : Hp} {Q : VK} {E : XK} (h : sp_law P w K vs H Q E) : vs.length = 1 := by
  obtain ⟨⟨_, _, rfl, _⟩, _⟩ := h; rfl
theorem pure_law {P : Program} {w : World} {K : PySem.W.Frag} (vs : List V) (H : Hp) (Q : VK) (E : XK) (h : sp_law P w K vs H Q E) : t_law P w K E { nx := fun _ H' => Q .non H', rt := Q } (start N_law vs) H := by
  obtain ⟨⟨a, ns, rfl, hS⟩, q⟩ := h
  have fin : ∀ b H', b = true → Q (.bl b) H' := by rintro b H' rfl; exact q _ _ rfl
  unfold t_law
  repeat walk_at "mst"
  refine mk_yard fun F H1 fr Y1 => ?_
  have e1 : Ex H H1 := fun c o z => (fr c o z).1
  have hS1 := Evl.ex_l e1 hS
  repeat walk_at "mst"
  refine mk_order fun r1 dx1 wn1 dw1 wl1 wr1 sm1 H2 na1 e2 O1 nl1 nr1 => ?_
  have hS2 := Evl.ex_l e2 hS1
  have Y2 := Y1.ex e2
  have A1 : ∀ G, OrAt K H2 F r1 dx1 wn1 dw1 wl1 wr1 sm1 G 0 := fun G => ⟨O1.ins, O1.wn G, Y1.fresh nl1, Y1.fresh nr1⟩
  repeat walk_at "mst"
  refine use_cell hS2 (by decide) fun cc => ?_
  repeat walk_at "mst"
  refine use_count fun n n1 n23 => ?_
  repeat walk_at "mst"
  refine use_family hS2 (by decide) ⟨by omega, by omega⟩ (by decide) fun t m hp G hts H4 e4 ht nm nhp nmh M hh hl FG O few => ?_
  have few2 : G.length ≤ 24 := by omega
  have om := Y2.fresh nm
  have g0 : 0 < G.length := (List.getElem?_eq_some_iff.mp FG.zero).1
  have Y4 := Y2.ex e4
  repeat walk_at "mst"
  refine use_built Y4 M FG (fun c z => Y2.fresh (Classical.byContradiction fun h => z (Or.inl h))) om (by omega) fun np H5 hs5 nnp g5 Y5 hn5 => ?_
  repeat walk_at "mst"
  refine fun d nd => ?_
  have e6 := Evl.Ex.new (o := HO.dT []) nd
  have hd6 : upd H5 d (HO.dT []) d = some (HO.dT []) := upd_same
  generalize upd H5 d (HO.dT []) = H6 at *
  have Y6 := Y5.ex e6
  have od := Y5.fresh nd
  have M5 : ModAt (fun c => ZF H2 m hp c ∨ c = np) H5 m G := by
    obtain ⟨xs, hm, fs⟩ := M.add nnp
    exact ⟨xs, g5 _ _ hm om, fs.keep (fun c o z h => g5 _ _ z (Y2.fresh (Classical.byContradiction fun y => h (Or.inl (Or.inl y))))) fun c ys z => g5 _ _ z (Y4.tup z)⟩
  have M6 := (M5.add nd).up e6
  have A6 : OrAt K H6 F r1 dx1 wn1 dw1 wl1 wr1 sm1 G 0 := by
    have B := ((A1 G).ke fun c o z _ => e4 c o z).gr Y4 g5
    exact B.ke fun c o z _ => e6 c o z
  have hZ : ∃ Z : Addr → Prop, ∀ c, Z c ↔ ((ZF H2 m hp c ∨ c = np) ∨ c = d) := ⟨_, fun _ => Iff.rfl⟩
  obtain ⟨Z, zi⟩ := hZ
  have M6' : ModAt Z H6 m G := by
    have e : Z = fun c => (ZF H2 m hp c ∨ c = np) ∨ c = d := funext fun c => propext (zi c)
    rw [e]; exact M6
  have zd : Z d := (zi d).mpr (Or.inr rfl)
  have z3 : ∀ c o, H2 c = some o → Z c := fun c o z => (zi c).mpr (Or.inl (Or.inl (Or.inl (by rw [z]; intro y; cases y))))
  have zl1 := z3 _ _ (A1 G).wn.hl
  have zr1 := z3 _ _ (A1 G).wn.hr
  have df3 : ∀ c, H2 c = none → c ≠ wl1 ∧ c ≠ wr1 := fun c z => ⟨(ne_of_none (A1 G).wn.hl z).symm, (ne_of_none (A1 G).wn.hr z).symm⟩
  have dnp := df3 _ (Evl.fresh_back e4 nnp)
  have dm_ := df3 _ nm
  have hn6 := e6 _ _ hn5
  have p6 : Play P w K Z F G hs5 [(Sum.inl 0, V.int 0)] r1 dx1 wn1 dw1 wl1 wr1 sm1 m np d H6 := ⟨Y6, ⟨0, Nat.zero_le _, A6⟩, M6', hn6, ⟨_, hd6, ⟨List.nodup_nil, fun p m => nomatch m⟩⟩, ⟨zd, zl1, zr1⟩, od, ⟨dnp.1, dnp.2, dm_.1, dm_.2⟩, by omega⟩
  have hS6 : SqL K H6 a (ns.map V.int) := sql_keep (Z := fun c => ¬ Off F c) hS (fun c o z nz => e6 _ _ (g5 _ _ (e4 _ _ (e2 _ _ (e1 _ _ z))) (Classical.byContradiction nz))) fun o z y => y (fr a o z).2
  have aw : ∀ o, H a = some o → a ≠ wl1 ∧ a ≠ wr1 ∧ a ≠ d := fun o z => ⟨ne_of_none (e1 _ _ z) nl1, ne_of_none (e1 _ _ z) nr1, ne_of_none (g5 _ _ (e4 _ _ (e2 _ _ (e1 _ _ z))) (fr a o z).2) nd⟩
  have ks : ∀ H', (∀ c o, H6 c = some o → c ≠ wl1 → c ≠ wr1 → c ≠ d → H' c = some o) → SqL K H' a (ns.map V.int) := fun H' k => sql_keep (Z := fun c => ¬ Off F c ∨ c = wl1 ∨ c = wr1 ∨ c = d) hS (fun c o z nz => k _ _ (e6 _ _ (g5 _ _ (e4 _ _ (e2 _ _ (e1 _ _ z))) (Classical.byContradiction fun h => nz (Or.inl h)))) (fun h => nz (Or.inr (Or.inl h))) (fun h => nz (Or.inr (Or.inr (Or.inl h)))) (fun h => nz (Or.inr (Or.inr (Or.inr h))))) fun o z y => by
    obtain ⟨y1, y2, y3⟩ := aw o z
    rcases y with y | y | y | y
    · exact y (fr a o z).2
    · exact y1 y
    · exact y2 y
    · exact y3 y
  obtain ⟨xm, hm6, fm6⟩ := id M6'
  have xl : xm.length = G.length := fm6.1
  repeat walk_at "mst"
  refine ⟨_, rfl, by omega, by omega, ?_⟩
  rw [Int.toNat_natCast, xl]
  refine forK_range (fun i σ H' => (∀ c o, H6 c = some o → c ≠ wl1 → c ≠ wr1 → c ≠ d → H' c = some o) ∧ Play P w K Z F G hs5 [(Sum.inl 0, V.int 0)] r1 dx1 wn1 dw1 wl1 wr1 sm1 m np d H' ∧ ∃ x6 x7 : Option V, σ = [some (.ref a), some (.ref F.y), some (.ref r1), some (.ref m), some (.ref np), some (.ref d), x6, x7]) ⟨fun c o z _ _ _ => z, p6, _, _, rfl⟩ ?_ ?_
  · rintro i σ H7 hi ⟨k7, p7, x6, x7, rfl⟩
    obtain ⟨xm7, hm7, fm7⟩ := id p7.M
    have xl7 : xm7.length = G.length := fm7.1
    have hS7 := ks _ k7
    repeat walk_at "mst"
    refine k_iteD (fun e => ?_) (fun e => ?_)
    · clear e
      repeat walk_at "mst"
      refine use_loutcome p7 hi fun H8 k8 p8 => ?_
      repeat walk_at "mst"
      refine use_lmoves (s := 0) p8 hi (by decide) fun H9 k9 p9 => ?_
      repeat walk_at "mst"
      refine use_lmoves (s := 1) p9 hi (by decide) fun H10 k10 p10 => ?_
      repeat walk_at "mst"
      exact ⟨fun c o z n1 n2 n3 => k10 _ _ (k9 _ _ (k8 _ _ (k7 _ _ z n1 n2 n3) n1 n2 n3) n1 n2 n3) n1 n2 n3, p10, _, _, rfl⟩
    · clear e
      repeat walk_at "mst"
      rw [show ((xm7.length : Nat) : Int) - 1 - (i : Int) = ((G.length - 1 - i : Nat) : Int) from by omega]
      have hi2 : G.length - 1 - i < G.length := by omega
      refine use_loutcome p7 hi2 fun H8 k8 p8 => ?_
      repeat walk_at "mst"
      refine use_lmoves (s := 0) p8 hi2 (by decide) fun H9 k9 p9 => ?_
      repeat walk_at "mst"
      refine use_lmoves (s := 1) p9 hi2 (by decide) fun H10 k10 p10 => ?_
      repeat walk_at "mst"
      exact ⟨fun c o z n1 n2 n3 => k10 _ _ (k9 _ _ (k8 _ _ (k7 _ _ z n1 n2 n3) n1 n2 n3) n1 n2 n3) n1 n2 n3, p10, _, _, rfl⟩
  · rintro σ H7 ⟨k7, p7, x6, x7, rfl⟩
    obtain ⟨xm7, hm7, fm7⟩ := id p7.M
    have xl7 : xm7.length = G.length := fm7.1
    repeat walk_at "mst"
    refine ⟨_, rfl, by omega, by omega, ?_⟩
    rw [Int.toNat_natCast, xl7]
    refine forK_range (fun i σ H' => Play P w K Z F G hs5 [(Sum.inl 0, V.int 0)] r1 dx1 wn1 dw1 wl1 wr1 sm1 m np d H' ∧ ∃ x7 : Option V, σ = [some (.ref a), some (.ref F.y), some (.ref r1), some (.ref m), some (.ref np), some (.ref d), x6, x7]) ⟨p7, _, rfl⟩ ?_ ?_
    · rintro i σ H8 hi ⟨p8, x7, rfl⟩
      repeat walk_at "mst"
      refine use_loutcome p8 hi fun H9 _ p9 => ?_
      repeat walk_at "mst"
      exact ⟨p9, _, rfl⟩
    · rintro σ H8 ⟨p8, x7, rfl⟩
      repeat walk_at "mst"
      exact fin _ _ rfl
open Hd
theorem hu65R {A : Around} {k : Nat} (hr : Room k A) : A.units + 65 < cLine := by have := hr.un; omega
abbrev R_Yard_d_init : List Str := ["self"]
theorem sc_Yard_d_init : FnScope R_Yard_d_init ["self"] (defScope s_Yard_d_init) := ⟨rfl, rfl, rfl, by decide +kernel, rfl, by decide +kernel, by decide +kernel⟩
abbrev R_Wins_d_init : List Str := ["self", "yard"]
theorem sc_Wins_d_init : FnScope R_Wins_d_init ["self", "yard"] (defScope s_Wins_d_init) := ⟨rfl, rfl, rfl, by decide +kernel, rfl, by decide +kernel, by decide +kernel⟩
abbrev R_Pairs_d_init : List Str := ["self", "yard"]
theorem sc_Pairs_d_init : FnScope R_Pairs_d_init ["self", "yard"] (defScope s_Pairs_d_init) := ⟨rfl, rfl, rfl, by decide +kernel, rfl, by decide +kernel, by decide +kernel⟩
abbrev R_Yard_m_size : List Str := ["self"]
theorem sc_Yard_m_size : FnScope R_Yard_m_size ["self"] (defScope s_Yard_m_size) := ⟨rfl, rfl, rfl, by decide +kernel, rfl, by decide +kernel, by decide +kernel⟩
abbrev R_Yard_m_check : List Str := ["self", "game"]
theorem sc_Yard_m_check : FnScope R_Yard_m_check ["self", "game"] (defScope s_Yard_m_check) := ⟨rfl, rfl, rfl, by decide +kernel, rfl, by decide +kernel, by decide +kernel⟩
abbrev R_Yard_m_lefts : List Str := ["self", "game"]
theorem sc_Yard_m_lefts : FnScope R_Yard_m_lefts ["self", "game"] (defScope s_Yard_m_lefts) := ⟨rfl, rfl, rfl, by decide +kernel, rfl, by decide +kernel, by decide +kernel⟩
abbrev R_Yard_m_rights : List Str := ["self", "game"]
theorem sc_Yard_m_rights : FnScope R_Yard_m_rights ["self", "game"] (defScope s_Yard_m_rights) := ⟨rfl, rfl, rfl, by decide +kernel, rfl, by decide +kernel, by decide +kernel⟩
abbrev R_Wins_m_catch_up : List Str := ["self", "first", "game", "lefts", "rights", "left_wins", "option", "right_wins"]
theorem sc_Wins_m_catch_up : FnScope R_Wins_m_catch_up ["self"] (defScope s_Wins_m_catch_up) := ⟨rfl, rfl, rfl, by decide +kernel, rfl, by decide +kernel, by decide +kernel⟩
abbrev R_Pairs_m_catch_up : List Str := ["self", "first", "game"]
theorem sc_Pairs_m_catch_up : FnScope R_Pairs_m_catch_up ["self"] (defScope s_Pairs_m_catch_up) := ⟨rfl, rfl, rfl, by decide +kernel, rfl, by decide +kernel, by decide +kernel⟩
abbrev R_Ranks_d_init : List Str := ["self", "pairs"]
theorem sc_Ranks_d_init : FnScope R_Ranks_d_init ["self", "pairs"] (defScope s_Ranks_d_init) := ⟨rfl, rfl, rfl, by decide +kernel, rfl, by decide +kernel, by decide +kernel⟩
abbrev R_is_whole : List Str := ["thing", "least", "most"]
theorem sc_is_whole : FnScope R_is_whole ["thing", "least", "most"] (defScope s_is_whole) := ⟨rfl, rfl, rfl, by decide +kernel, rfl, by decide +kernel, by decide +kernel⟩
abbrev R_plain : List Str := ["top", "power"]
theorem sc_plain : FnScope R_plain ["top", "power"] (defScope s_plain) := ⟨rfl, rfl, rfl, by decide +kernel, rfl, by decide +kernel, by decide +kernel⟩
abbrev R_Dyadic_d_init : List Str := ["self", "top", "power"]
theorem sc_Dyadic_d_init : FnScope R_Dyadic_d_init ["self", "top", "power"] (defScope s_Dyadic_d_init) := ⟨rfl, rfl, rfl, by decide +kernel, rfl, by decide +kernel, by decide +kernel⟩
abbrev R_Dyads_d_init : List Str := ["self", "yard"]
theorem sc_Dyads_d_init : FnScope R_Dyads_d_init ["self", "yard"] (defScope s_Dyads_d_init) := ⟨rfl, rfl, rfl, by decide +kernel, rfl, by decide +kernel, by decide +kernel⟩
abbrev R_SimpleSums_d_init : List Str := ["self", "yard", "reduced"]
theorem sc_SimpleSums_d_init : FnScope R_SimpleSums_d_init ["self", "yard", "reduced"] (defScope s_SimpleSums_d_init) := ⟨rfl, rfl, rfl, by decide +kernel, rfl, by decide +kernel, by decide +kernel⟩
abbrev R_SimpleForms_d_init : List Str := ["self", "yard"]
theorem sc_SimpleForms_d_init : FnScope R_SimpleForms_d_init ["self", "yard"] (defScope s_SimpleForms_d_init) := ⟨rfl, rfl, rfl, by decide +kernel, rfl, by decide +kernel, by decide +kernel⟩
abbrev R_Order_d_init : List Str := ["self", "yard"]
theorem sc_Order_d_init : FnScope R_Order_d_init ["self", "yard"] (defScope s_Order_d_init) := ⟨rfl, rfl, rfl, by decide +kernel, rfl, by decide +kernel, by decide +kernel⟩
abbrev R_law_drawn : List Str := ["model", "heights", "digits", "most", "pool", "k", "lefts", "rights", "base"]
theorem sc_law_drawn : FnScope R_law_drawn ["model", "heights", "digits", "most"] (defScope s_law_drawn) := ⟨rfl, rfl, rfl, by decide +kernel, rfl, by decide +kernel, by decide +kernel⟩
abbrev R_law_digits : List Str := ["cell", "count", "row", "k", "seed"]
theorem sc_law_digits : FnScope R_law_digits ["cell", "count"] (defScope s_law_digits) := ⟨rfl, rfl, rfl, by decide +kernel, rfl, by decide +kernel, by decide +kernel⟩
abbrev R_law_cell : List Str := ["script", "k", "mixed", "cell"]
theorem sc_law_cell : FnScope R_law_cell ["script", "k"] (defScope s_law_cell) := ⟨rfl, rfl, rfl, by decide +kernel, rfl, by decide +kernel, by decide +kernel⟩
abbrev R_law_put : List Str := ["model", "heights", "lefts", "rights", "form", "k"]
theorem sc_law_put : FnScope R_law_put ["model", "heights", "lefts", "rights"] (defScope s_law_put) := ⟨rfl, rfl, rfl, by decide +kernel, rfl, by decide +kernel, by decide +kernel⟩
abbrev R_law_family : List Str := ["script", "first", "count", "most", "model", "heights", "k", "drawn"]
theorem sc_law_family : FnScope R_law_family ["script", "first", "count", "most"] (defScope s_law_family) := ⟨rfl, rfl, rfl, by decide +kernel, rfl, by decide +kernel, by decide +kernel⟩
abbrev R_law_count : List Str := ["cell", "k"]
theorem sc_law_count : FnScope R_law_count ["cell"] (defScope s_law_count) := ⟨rfl, rfl, rfl, by decide +kernel, rfl, by decide +kernel, by decide +kernel⟩
abbrev R_Yard_p_kept : List Str := ["self", "lefts", "rights", "options", "option"]
theorem sc_Yard_p_kept : FnScope R_Yard_p_kept ["self", "lefts", "rights"] (defScope s_Yard_p_kept) := ⟨rfl, rfl, rfl, by decide +kernel, rfl, by decide +kernel, by decide +kernel⟩
abbrev R_Yard_m_game : List Str := ["self", "lefts", "rights", "option"]
theorem sc_Yard_m_game : FnScope R_Yard_m_game ["self", "lefts", "rights"] (defScope s_Yard_m_game) := ⟨rfl, rfl, rfl, by decide +kernel, rfl, by decide +kernel, by decide +kernel⟩
abbrev R_law_built : List Str := ["yard", "model", "numbers", "form", "k"]
theorem sc_law_built : FnScope R_law_built ["yard", "model"] (defScope s_law_built) := ⟨rfl, rfl, rfl, by decide +kernel, rfl, by decide +kernel, by decide +kernel⟩
abbrev R_law_wins : List Str := ["model", "known", "at", "side", "key", "k"]
theorem sc_law_wins : FnScope R_law_wins ["model", "known", "at", "side"] (defScope s_law_wins) := ⟨rfl, rfl, rfl, by decide +kernel, rfl, by decide +kernel, by decide +kernel⟩
abbrev R_Wins_m_can_win : List Str := ["self", "game", "side"]
theorem sc_Wins_m_can_win : FnScope R_Wins_m_can_win ["self", "game", "side"] (defScope s_Wins_m_can_win) := ⟨rfl, rfl, rfl, by decide +kernel, rfl, by decide +kernel, by decide +kernel⟩
abbrev R_Order_m_can_win : List Str := ["self", "game", "side"]
theorem sc_Order_m_can_win : FnScope R_Order_m_can_win ["self", "game", "side"] (defScope s_Order_m_can_win) := ⟨rfl, rfl, rfl, by decide +kernel, rfl, by decide +kernel, by decide +kernel⟩
abbrev R_Order_m_outcome : List Str := ["self", "game", "left_wins", "right_wins"]
theorem sc_Order_m_outcome : FnScope R_Order_m_outcome ["self", "game"] (defScope s_Order_m_outcome) := ⟨rfl, rfl, rfl, by decide +kernel, rfl, by decide +kernel, by decide +kernel⟩
abbrev R_law_outcome : List Str := ["order", "model", "numbers", "known", "at", "left", "right", "due", "told"]
theorem sc_law_outcome : FnScope R_law_outcome ["order", "model", "numbers", "known", "at"] (defScope s_law_outcome) := ⟨rfl, rfl, rfl, by decide +kernel, rfl, by decide +kernel, by decide +kernel⟩
abbrev R_other_side : List Str := ["side"]
theorem sc_other_side : FnScope R_other_side ["side"] (defScope s_other_side) := ⟨rfl, rfl, rfl, by decide +kernel, rfl, by decide +kernel, by decide +kernel⟩
abbrev R_Yard_m_options : List Str := ["self", "game", "side"]
theorem sc_Yard_m_options : FnScope R_Yard_m_options ["self", "game", "side"] (defScope s_Yard_m_options) := ⟨rfl, rfl, rfl, by decide +kernel, rfl, by decide +kernel, by decide +kernel⟩
abbrev R_Order_m_winning : List Str := ["self", "game", "side", "foe", "option"]
theorem sc_Order_m_winning : FnScope R_Order_m_winning ["self", "game", "side"] (defScope s_Order_m_winning) := ⟨rfl, rfl, rfl, by decide +kernel, rfl, by decide +kernel, by decide +kernel⟩
abbrev R_law_is_integer : List Str := ["thing"]
theorem sc_law_is_integer : FnScope R_law_is_integer ["thing"] (defScope s_law_is_integer) := ⟨rfl, rfl, rfl, by decide +kernel, rfl, by decide +kernel, by decide +kernel⟩
abbrev R_law_all_integers : List Str := ["numbers", "number"]
theorem sc_law_all_integers : FnScope R_law_all_integers ["numbers"] (defScope s_law_all_integers) := ⟨rfl, rfl, rfl, by decide +kernel, rfl, by decide +kernel, by decide +kernel⟩
abbrev R_law_is_list : List Str := ["told", "due"]
theorem sc_law_is_list : FnScope R_law_is_list ["told", "due"] (defScope s_law_is_list) := ⟨rfl, rfl, rfl, by decide +kernel, rfl, by decide +kernel, by decide +kernel⟩
abbrev R_law_moves : List Str := ["order", "model", "numbers", "known", "at", "side", "due", "k", "word", "told"]
theorem sc_law_moves : FnScope R_law_moves ["order", "model", "numbers", "known", "at", "side"] (defScope s_law_moves) := ⟨rfl, rfl, rfl, by decide +kernel, rfl, by decide +kernel, by decide +kernel⟩
abbrev R_law : List Str := ["script", "yard", "order", "model", "numbers", "known", "k", "at"]
theorem sc_law : FnScope R_law ["script"] (defScope s_law) := ⟨rfl, rfl, rfl, by decide +kernel, rfl, by decide +kernel, by decide +kernel⟩
structure Txt (K : PySem.W.Frag) (mg : Str → Option Value) : Prop where
  g_BadValue : mg "BadValue" = some (.ref (He.ga K "BadValue"))
  g_Dyadic : mg "Dyadic" = some (.ref (He.ga K "Dyadic"))
  g_Dyads : mg "Dyads" = some (.ref (He.ga K "Dyads"))
  g_Order : mg "Order" = some (.ref (He.ga K "Order"))
  g_Pairs : mg "Pairs" = some (.ref (He.ga K "Pairs"))
  g_Ranks : mg "Ranks" = some (.ref (He.ga K "Ranks"))
  g_SimpleForms : mg "SimpleForms" = some (.ref (He.ga K "SimpleForms"))
  g_SimpleSums : mg "SimpleSums" = some (.ref (He.ga K "SimpleSums"))
  g_Wins : mg "Wins" = some (.ref (He.ga K "Wins"))
  g_Yard : mg "Yard" = some (.ref (He.ga K "Yard"))
  g__law_all_integers : mg "_law_all_integers" = some (.ref (He.ga K "_law_all_integers"))
  g__law_built : mg "_law_built" = some (.ref (He.ga K "_law_built"))
  g__law_cell : mg "_law_cell" = some (.ref (He.ga K "_law_cell"))
  g__law_count : mg "_law_count" = some (.ref (He.ga K "_law_count"))
  g__law_digits : mg "_law_digits" = some (.ref (He.ga K "_law_digits"))
  g__law_drawn : mg "_law_drawn" = some (.ref (He.ga K "_law_drawn"))
  g__law_family : mg "_law_family" = some (.ref (He.ga K "_law_family"))
  g__law_is_integer : mg "_law_is_integer" = some (.ref (He.ga K "_law_is_integer"))
  g__law_is_list : mg "_law_is_list" = some (.ref (He.ga K "_law_is_list"))
  g__law_moves : mg "_law_moves" = some (.ref (He.ga K "_law_moves"))
  g__law_outcome : mg "_law_outcome" = some (.ref (He.ga K "_law_outcome"))
  g__law_put : mg "_law_put" = some (.ref (He.ga K "_law_put"))
  g__law_wins : mg "_law_wins" = some (.ref (He.ga K "_law_wins"))
  g__plain : mg "_plain" = some (.ref (He.ga K "_plain"))
  g_is_whole : mg "is_whole" = some (.ref (He.ga K "is_whole"))
  g_law : mg "law" = some (.ref (He.ga K "law"))
  g_other_side : mg "other_side" = some (.ref (He.ga K "other_side"))
  z_any : mg "any" = none
  z_bool : mg "bool" = none
  z_int : mg "int" = none
  z_isinstance : mg "isinstance" = none
  z_len : mg "len" = none
  z_list : mg "list" = none
  z_max : mg "max" = none
  z_range : mg "range" = none
  z_set : mg "set" = none
  z_sorted : mg "sorted" = none
  z_str : mg "str" = none
  z_tuple : mg "tuple" = none
  z_type : mg "type" = none
  c_MOST_POWER : ∃ t, mg "MOST_POWER" = some (.int (40) t)
  c_MOST_TOP : ∃ t, mg "MOST_TOP" = some (.int (1000000000000) t)
  cl_Dyadic : Cls K (He.ga K "Dyadic")
  cl_Dyads : Cls K (He.ga K "Dyads")
  cl_Order : Cls K (He.ga K "Order")
  cl_Pairs : Cls K (He.ga K "Pairs")
  cl_Ranks : Cls K (He.ga K "Ranks")
  cl_SimpleForms : Cls K (He.ga K "SimpleForms")
  cl_SimpleSums : Cls K (He.ga K "SimpleSums")
  cl_Wins : Cls K (He.ga K "Wins")
  cl_Yard : Cls K (He.ga K "Yard")
  bm_SimpleForms_reduced : BMeth K (He.ga K "SimpleForms") "reduced" (He.ma K (He.ga K "SimpleForms") "reduced")
  x_BadValue : PySem.W.excIn K (He.ga K "BadValue") He.veBase "ValueError.__new__" = true ∧ PySem.W.keepIn K (.ref (He.ga K "BadValue")) = true ∧ PySem.W.subIn K (.ref (He.ga K "BadValue")) (.type "BaseException") = some true ∧ PySem.W.typeIn K (.ref (He.ga K "BadValue")) = some (.type "type")
  mt_Order_can_win : Meth K (He.ga K "Order") "can_win" (He.ma K (He.ga K "Order") "can_win")
  mt_Order_outcome : Meth K (He.ga K "Order") "outcome" (He.ma K (He.ga K "Order") "outcome")
  mt_Order_winning : Meth K (He.ga K "Order") "winning" (He.ma K (He.ga K "Order") "winning")
  mt_Pairs_catch_up : Meth K (He.ga K "Pairs") "catch_up" (He.ma K (He.ga K "Pairs") "catch_up")
  mt_Wins_can_win : Meth K (He.ga K "Wins") "can_win" (He.ma K (He.ga K "Wins") "can_win")
  mt_Wins_catch_up : Meth K (He.ga K "Wins") "catch_up" (He.ma K (He.ga K "Wins") "catch_up")
  mt_Yard__kept : Meth K (He.ga K "Yard") "_kept" (He.ma K (He.ga K "Yard") "_kept")
  mt_Yard_check : Meth K (He.ga K "Yard") "check" (He.ma K (He.ga K "Yard") "check")
  mt_Yard_game : Meth K (He.ga K "Yard") "game" (He.ma K (He.ga K "Yard") "game")
  mt_Yard_lefts : Meth K (He.ga K "Yard") "lefts" (He.ma K (He.ga K "Yard") "lefts")
  mt_Yard_options : Meth K (He.ga K "Yard") "options" (He.ma K (He.ga K "Yard") "options")
  mt_Yard_rights : Meth K (He.ga K "Yard") "rights" (He.ma K (He.ga K "Yard") "rights")
  mk_Dyadic : Mk K (He.ga K "Dyadic") (He.ma K (He.ga K "Dyadic") "__init__")
  mk_Dyads : Mk K (He.ga K "Dyads") (He.ma K (He.ga K "Dyads") "__init__")
  mk_Order : Mk K (He.ga K "Order") (He.ma K (He.ga K "Order") "__init__")
  mk_Pairs : Mk K (He.ga K "Pairs") (He.ma K (He.ga K "Pairs") "__init__")
  mk_Ranks : Mk K (He.ga K "Ranks") (He.ma K (He.ga K "Ranks") "__init__")
  mk_SimpleForms : Mk K (He.ga K "SimpleForms") (He.ma K (He.ga K "SimpleForms") "__init__")
  mk_SimpleSums : Mk K (He.ga K "SimpleSums") (He.ma K (He.ga K "SimpleSums") "__init__")
  mk_Wins : Mk K (He.ga K "Wins") (He.ma K (He.ga K "Wins") "__init__")
  mk_Yard : Mk K (He.ga K "Yard") (He.ma K (He.ga K "Yard") "__init__")
  na_Dyadic__power : NoAttr K (He.ga K "Dyadic") "_power"
  na_Dyadic__top : NoAttr K (He.ga K "Dyadic") "_top"
  na_Dyads__forms : NoAttr K (He.ga K "Dyads") "_forms"
  na_Dyads__numbers : NoAttr K (He.ga K "Dyads") "_numbers"
  na_Dyads__yard : NoAttr K (He.ga K "Dyads") "_yard"
  na_Order__simple : NoAttr K (He.ga K "Order") "_simple"
  na_Order__wins : NoAttr K (He.ga K "Order") "_wins"
  na_Order__yard : NoAttr K (He.ga K "Order") "_yard"
  na_Pairs__known : NoAttr K (He.ga K "Pairs") "_known"
  na_Pairs__lefts : NoAttr K (He.ga K "Pairs") "_lefts"
  na_Pairs__rights : NoAttr K (He.ga K "Pairs") "_rights"
  na_Pairs__wins : NoAttr K (He.ga K "Pairs") "_wins"
  na_Pairs__yard : NoAttr K (He.ga K "Pairs") "_yard"
  na_Ranks__asked : NoAttr K (He.ga K "Ranks") "_asked"
  na_Ranks__better : NoAttr K (He.ga K "Ranks") "_better"
  na_Ranks__bits : NoAttr K (He.ga K "Ranks") "_bits"
  na_Ranks__forms : NoAttr K (He.ga K "Ranks") "_forms"
  na_Ranks__pairs : NoAttr K (He.ga K "Ranks") "_pairs"
  na_SimpleForms__forms : NoAttr K (He.ga K "SimpleForms") "_forms"
  na_SimpleForms__known_sums : NoAttr K (He.ga K "SimpleForms") "_known_sums"
  na_SimpleForms__own : NoAttr K (He.ga K "SimpleForms") "_own"
  na_SimpleForms__own_forms : NoAttr K (He.ga K "SimpleForms") "_own_forms"
  na_SimpleForms__pairs : NoAttr K (He.ga K "SimpleForms") "_pairs"
  na_SimpleForms__ranks : NoAttr K (He.ga K "SimpleForms") "_ranks"
  na_SimpleForms__sums : NoAttr K (He.ga K "SimpleForms") "_sums"
  na_SimpleForms__yard : NoAttr K (He.ga K "SimpleForms") "_yard"
  na_SimpleSums__dyads : NoAttr K (He.ga K "SimpleSums") "_dyads"
  na_SimpleSums__reduced : NoAttr K (He.ga K "SimpleSums") "_reduced"
  na_SimpleSums__sums : NoAttr K (He.ga K "SimpleSums") "_sums"
  na_SimpleSums__yard : NoAttr K (He.ga K "SimpleSums") "_yard"
  na_Wins__left : NoAttr K (He.ga K "Wins") "_left"
  na_Wins__right : NoAttr K (He.ga K "Wins") "_right"
  na_Wins__yard : NoAttr K (He.ga K "Wins") "_yard"
  na_Yard__heights : NoAttr K (He.ga K "Yard") "_heights"
  na_Yard__lefts : NoAttr K (He.ga K "Yard") "_lefts"
  na_Yard__numbers : NoAttr K (He.ga K "Yard") "_numbers"
  na_Yard__rights : NoAttr K (He.ga K "Yard") "_rights"
  na_Yard__turned : NoAttr K (He.ga K "Yard") "_turned"
  pr_Yard_size : PropOf K (He.ga K "Yard") "size" (He.ma K (He.ga K "Yard") "size") (propG K "Yard" "size")
  d_Yard_d_init : ∃ fd, FunD K "__init__" "Yard.__init__" (defArgs s_Yard_d_init) (defBody s_Yard_d_init) (defScope s_Yard_d_init) [] [] (ad_Yard_d_init K) fd
  d_Wins_d_init : ∃ fd, FunD K "__init__" "Wins.__init__" (defArgs s_Wins_d_init) (defBody s_Wins_d_init) (defScope s_Wins_d_init) [] [] (ad_Wins_d_init K) fd
  d_Pairs_d_init : ∃ fd, FunD K "__init__" "Pairs.__init__" (defArgs s_Pairs_d_init) (defBody s_Pairs_d_init) (defScope s_Pairs_d_init) [] [] (ad_Pairs_d_init K) fd
  d_Yard_m_size : ∃ fd, FunD K "size" "Yard.size" (defArgs s_Yard_m_size) (defBody s_Yard_m_size) (defScope s_Yard_m_size) [] [] (ad_Yard_m_size K) fd
  d_Yard_m_check : ∃ fd, FunD K "check" "Yard.check" (defArgs s_Yard_m_check) (defBody s_Yard_m_check) (defScope s_Yard_m_check) [] [] (ad_Yard_m_check K) fd
  d_Yard_m_lefts : ∃ fd, FunD K "lefts" "Yard.lefts" (defArgs s_Yard_m_lefts) (defBody s_Yard_m_lefts) (defScope s_Yard_m_lefts) [] [] (ad_Yard_m_lefts K) fd
  d_Yard_m_rights : ∃ fd, FunD K "rights" "Yard.rights" (defArgs s_Yard_m_rights) (defBody s_Yard_m_rights) (defScope s_Yard_m_rights) [] [] (ad_Yard_m_rights K) fd
  d_Wins_m_catch_up : ∃ fd, FunD K "catch_up" "Wins.catch_up" (defArgs s_Wins_m_catch_up) (defBody s_Wins_m_catch_up) (defScope s_Wins_m_catch_up) [] [] (ad_Wins_m_catch_up K) fd
  d_Pairs_m_catch_up : ∃ fd, FunD K "catch_up" "Pairs.catch_up" (defArgs s_Pairs_m_catch_up) (defBody s_Pairs_m_catch_up) (defScope s_Pairs_m_catch_up) [] [] (ad_Pairs_m_catch_up K) fd
  d_Ranks_d_init : ∃ fd, FunD K "__init__" "Ranks.__init__" (defArgs s_Ranks_d_init) (defBody s_Ranks_d_init) (defScope s_Ranks_d_init) [] [] (ad_Ranks_d_init K) fd
  d_is_whole : ∃ fd, FunD K "is_whole" "is_whole" (defArgs s_is_whole) (defBody s_is_whole) (defScope s_is_whole) [] [] (ad_is_whole K) fd
  d_plain : ∃ fd, FunD K "_plain" "_plain" (defArgs s_plain) (defBody s_plain) (defScope s_plain) [] [] (ad_plain K) fd
  d_Dyadic_d_init : ∃ fd, FunD K "__init__" "Dyadic.__init__" (defArgs s_Dyadic_d_init) (defBody s_Dyadic_d_init) (defScope s_Dyadic_d_init) [.int 0] [] (ad_Dyadic_d_init K) fd
  d_Dyads_d_init : ∃ fd, FunD K "__init__" "Dyads.__init__" (defArgs s_Dyads_d_init) (defBody s_Dyads_d_init) (defScope s_Dyads_d_init) [] [] (ad_Dyads_d_init K) fd
  d_SimpleSums_d_init : ∃ fd, FunD K "__init__" "SimpleSums.__init__" (defArgs s_SimpleSums_d_init) (defBody s_SimpleSums_d_init) (defScope s_SimpleSums_d_init) [] [] (ad_SimpleSums_d_init K) fd
  d_SimpleForms_d_init : ∃ fd, FunD K "__init__" "SimpleForms.__init__" (defArgs s_SimpleForms_d_init) (defBody s_SimpleForms_d_init) (defScope s_SimpleForms_d_init) [] [] (ad_SimpleForms_d_init K) fd
  d_Order_d_init : ∃ fd, FunD K "__init__" "Order.__init__" (defArgs s_Order_d_init) (defBody s_Order_d_init) (defScope s_Order_d_init) [] [] (ad_Order_d_init K) fd
  d_law_drawn : ∃ fd, FunD K "_law_drawn" "_law_drawn" (defArgs s_law_drawn) (defBody s_law_drawn) (defScope s_law_drawn) [] [] (ad_law_drawn K) fd
  d_law_digits : ∃ fd, FunD K "_law_digits" "_law_digits" (defArgs s_law_digits) (defBody s_law_digits) (defScope s_law_digits) [] [] (ad_law_digits K) fd
  d_law_cell : ∃ fd, FunD K "_law_cell" "_law_cell" (defArgs s_law_cell) (defBody s_law_cell) (defScope s_law_cell) [] [] (ad_law_cell K) fd
  d_law_put : ∃ fd, FunD K "_law_put" "_law_put" (defArgs s_law_put) (defBody s_law_put) (defScope s_law_put) [] [] (ad_law_put K) fd
  d_law_family : ∃ fd, FunD K "_law_family" "_law_family" (defArgs s_law_family) (defBody s_law_family) (defScope s_law_family) [] [] (ad_law_family K) fd
  d_law_count : ∃ fd, FunD K "_law_count" "_law_count" (defArgs s_law_count) (defBody s_law_count) (defScope s_law_count) [] [] (ad_law_count K) fd
  d_Yard_p_kept : ∃ fd, FunD K "_kept" "Yard._kept" (defArgs s_Yard_p_kept) (defBody s_Yard_p_kept) (defScope s_Yard_p_kept) [] [] (ad_Yard_p_kept K) fd
  d_Yard_m_game : ∃ fd, FunD K "game" "Yard.game" (defArgs s_Yard_m_game) (defBody s_Yard_m_game) (defScope s_Yard_m_game) [] [] (ad_Yard_m_game K) fd
  d_law_built : ∃ fd, FunD K "_law_built" "_law_built" (defArgs s_law_built) (defBody s_law_built) (defScope s_law_built) [] [] (ad_law_built K) fd
  d_law_wins : ∃ fd, FunD K "_law_wins" "_law_wins" (defArgs s_law_wins) (defBody s_law_wins) (defScope s_law_wins) [] [] (ad_law_wins K) fd
  d_Wins_m_can_win : ∃ fd, FunD K "can_win" "Wins.can_win" (defArgs s_Wins_m_can_win) (defBody s_Wins_m_can_win) (defScope s_Wins_m_can_win) [] [] (ad_Wins_m_can_win K) fd
  d_Order_m_can_win : ∃ fd, FunD K "can_win" "Order.can_win" (defArgs s_Order_m_can_win) (defBody s_Order_m_can_win) (defScope s_Order_m_can_win) [] [] (ad_Order_m_can_win K) fd
  d_Order_m_outcome : ∃ fd, FunD K "outcome" "Order.outcome" (defArgs s_Order_m_outcome) (defBody s_Order_m_outcome) (defScope s_Order_m_outcome) [] [] (ad_Order_m_outcome K) fd
  d_law_outcome : ∃ fd, FunD K "_law_outcome" "_law_outcome" (defArgs s_law_outcome) (defBody s_law_outcome) (defScope s_law_outcome) [] [] (ad_law_outcome K) fd
  d_other_side : ∃ fd, FunD K "other_side" "other_side" (defArgs s_other_side) (defBody s_other_side) (defScope s_other_side) [] [] (ad_other_side K) fd
  d_Yard_m_options : ∃ fd, FunD K "options" "Yard.options" (defArgs s_Yard_m_options) (defBody s_Yard_m_options) (defScope s_Yard_m_options) [] [] (ad_Yard_m_options K) fd
  d_Order_m_winning : ∃ fd, FunD K "winning" "Order.winning" (defArgs s_Order_m_winning) (defBody s_Order_m_winning) (defScope s_Order_m_winning) [] [] (ad_Order_m_winning K) fd
  d_law_is_integer : ∃ fd, FunD K "_law_is_integer" "_law_is_integer" (defArgs s_law_is_integer) (defBody s_law_is_integer) (defScope s_law_is_integer) [] [] (ad_law_is_integer K) fd
  d_law_all_integers : ∃ fd, FunD K "_law_all_integers" "_law_all_integers" (defArgs s_law_all_integers) (defBody s_law_all_integers) (defScope s_law_all_integers) [] [] (ad_law_all_integers K) fd
  d_law_is_list : ∃ fd, FunD K "_law_is_list" "_law_is_list" (defArgs s_law_is_list) (defBody s_law_is_list) (defScope s_law_is_list) [] [] (ad_law_is_list K) fd
  d_law_moves : ∃ fd, FunD K "_law_moves" "_law_moves" (defArgs s_law_moves) (defBody s_law_moves) (defScope s_law_moves) [] [] (ad_law_moves K) fd
  d_law : ∃ fd, FunD K "law" "law" (defArgs s_law) (defBody s_law) (defScope s_law) [] [] (ad_law K) fd
theorem Txt.FDyadic {K : PySem.W.Frag} {mg : Str → Option Value} (T : Txt K mg) : FDyadic K := ⟨T.cl_Dyadic, T.na_Dyadic__top, T.na_Dyadic__power⟩
theorem Txt.FYard {K : PySem.W.Frag} {mg : Str → Option Value} (T : Txt K mg) : FYard K := ⟨T.cl_Yard, T.na_Yard__lefts, T.na_Yard__rights, T.na_Yard__heights, T.na_Yard__numbers, T.na_Yard__turned⟩
theorem Txt.FWins {K : PySem.W.Frag} {mg : Str → Option Value} (T : Txt K mg) : FWins K := ⟨T.cl_Wins, T.na_Wins__yard, T.na_Wins__left, T.na_Wins__right⟩
theorem Txt.FPairs {K : PySem.W.Frag} {mg : Str → Option Value} (T : Txt K mg) : FPairs K := ⟨T.cl_Pairs, T.na_Pairs__yard, T.na_Pairs__wins, T.na_Pairs__lefts, T.na_Pairs__rights, T.na_Pairs__known⟩
theorem Txt.FRanks {K : PySem.W.Frag} {mg : Str → Option Value} (T : Txt K mg) : FRanks K := ⟨T.cl_Ranks, T.na_Ranks__pairs, T.na_Ranks__bits, T.na_Ranks__forms, T.na_Ranks__better, T.na_Ranks__asked⟩
theorem Txt.FSimpleSums {K : PySem.W.Frag} {mg : Str → Option Value} (T : Txt K mg) : FSimpleSums K := ⟨T.cl_SimpleSums, T.na_SimpleSums__yard, T.na_SimpleSums__reduced, T.na_SimpleSums__dyads, T.na_SimpleSums__sums⟩
theorem Txt.FDyads {K : PySem.W.Frag} {mg : Str → Option Value} (T : Txt K mg) : FDyads K := ⟨T.cl_Dyads, T.na_Dyads__yard, T.na_Dyads__numbers, T.na_Dyads__forms⟩
theorem Txt.FSimpleForms {K : PySem.W.Frag} {mg : Str → Option Value} (T : Txt K mg) : FSimpleForms K := ⟨T.cl_SimpleForms, T.na_SimpleForms__yard, T.na_SimpleForms__own, T.na_SimpleForms__pairs, T.na_SimpleForms__ranks, T.na_SimpleForms__sums, T.na_SimpleForms__known_sums, T.na_SimpleForms__forms, T.na_SimpleForms__own_forms⟩
theorem Txt.FOrder {K : PySem.W.Frag} {mg : Str → Option Value} (T : Txt K mg) : FOrder K := ⟨T.cl_Order, T.na_Order__yard, T.na_Order__wins, T.na_Order__simple⟩
abbrev O_Yard_d_init (P : Program) (w : World) (K : PySem.W.Frag) (mg : Str → Option Value) (base : Heap) : Prop := DefOk P w K mg base CX0 1 "__init__" "Yard.__init__" s_Yard_d_init [] (ad_Yard_d_init K) ["self"] (sp_Yard_d_init P w K)
abbrev O_Wins_d_init (P : Program) (w : World) (K : PySem.W.Frag) (mg : Str → Option Value) (base : Heap) : Prop := DefOk P w K mg base CX0 1 "__init__" "Wins.__init__" s_Wins_d_init [] (ad_Wins_d_init K) ["self", "yard"] (sp_Wins_d_init K)
abbrev O_Pairs_d_init (P : Program) (w : World) (K : PySem.W.Frag) (mg : Str → Option Value) (base : Heap) : Prop := DefOk P w K mg base CX0 3 "__init__" "Pairs.__init__" s_Pairs_d_init [] (ad_Pairs_d_init K) ["self", "yard"] (sp_Pairs_d_init K)
abbrev O_Yard_m_size (P : Program) (w : World) (K : PySem.W.Frag) (mg : Str → Option Value) (base : Heap) : Prop := DefOk P w K mg base CX0 1 "size" "Yard.size" s_Yard_m_size [] (ad_Yard_m_size K) ["self"] (sp_Yard_m_size K)
abbrev O_Yard_m_check (P : Program) (w : World) (K : PySem.W.Frag) (mg : Str → Option Value) (base : Heap) : Prop := DefOk P w K mg base CX0 1 "check" "Yard.check" s_Yard_m_check [] (ad_Yard_m_check K) ["self", "game"] (sp_Yard_m_check P w K)
abbrev O_Yard_m_lefts (P : Program) (w : World) (K : PySem.W.Frag) (mg : Str → Option Value) (base : Heap) : Prop := DefOk P w K mg base CX0 2 "lefts" "Yard.lefts" s_Yard_m_lefts [] (ad_Yard_m_lefts K) ["self", "game"] (sp_Yard_m_lefts P w K)
abbrev O_Yard_m_rights (P : Program) (w : World) (K : PySem.W.Frag) (mg : Str → Option Value) (base : Heap) : Prop := DefOk P w K mg base CX0 2 "rights" "Yard.rights" s_Yard_m_rights [] (ad_Yard_m_rights K) ["self", "game"] (sp_Yard_m_rights P w K)
abbrev O_Wins_m_catch_up (P : Program) (w : World) (K : PySem.W.Frag) (mg : Str → Option Value) (base : Heap) : Prop := DefOk P w K mg base CX0 3 "catch_up" "Wins.catch_up" s_Wins_m_catch_up [] (ad_Wins_m_catch_up K) ["self"] (sp_Wins_m_catch_up P w K)
abbrev O_Pairs_m_catch_up (P : Program) (w : World) (K : PySem.W.Frag) (mg : Str → Option Value) (base : Heap) : Prop := DefOk P w K mg base CX0 4 "catch_up" "Pairs.catch_up" s_Pairs_m_catch_up [] (ad_Pairs_m_catch_up K) ["self"] (sp_Pairs_m_catch_up P w K)
abbrev O_Ranks_d_init (P : Program) (w : World) (K : PySem.W.Frag) (mg : Str → Option Value) (base : Heap) : Prop := DefOk P w K mg base CX0 1 "__init__" "Ranks.__init__" s_Ranks_d_init [] (ad_Ranks_d_init K) ["self", "pairs"] (sp_Ranks_d_init K)
abbrev O_is_whole (P : Program) (w : World) (K : PySem.W.Frag) (mg : Str → Option Value) (base : Heap) : Prop := DefOk P w K mg base CX0 1 "is_whole" "is_whole" s_is_whole [] (ad_is_whole K) ["thing", "least", "most"] (sp_is_whole K)
abbrev O_plain (P : Program) (w : World) (K : PySem.W.Frag) (mg : Str → Option Value) (base : Heap) : Prop := DefOk P w K mg base CX0 1 "_plain" "_plain" s_plain [] (ad_plain K) ["top", "power"] (sp_plain K)
abbrev O_Dyadic_d_init (P : Program) (w : World) (K : PySem.W.Frag) (mg : Str → Option Value) (base : Heap) : Prop := DefOk P w K mg base (L2.CX P w) 2 "__init__" "Dyadic.__init__" s_Dyadic_d_init [.int 0] (ad_Dyadic_d_init K) ["self", "top", "power"] (sp_Dyadic_d_init K)
abbrev O_Dyads_d_init (P : Program) (w : World) (K : PySem.W.Frag) (mg : Str → Option Value) (base : Heap) : Prop := DefOk P w K mg base CX0 4 "__init__" "Dyads.__init__" s_Dyads_d_init [] (ad_Dyads_d_init K) ["self", "yard"] (sp_Dyads_d_init K)
abbrev O_SimpleSums_d_init (P : Program) (w : World) (K : PySem.W.Frag) (mg : Str → Option Value) (base : Heap) : Prop := DefOk P w K mg base CX0 6 "__init__" "SimpleSums.__init__" s_SimpleSums_d_init [] (ad_SimpleSums_d_init K) ["self", "yard", "reduced"] (sp_SimpleSums_d_init K)
abbrev O_SimpleForms_d_init (P : Program) (w : World) (K : PySem.W.Frag) (mg : Str → Option Value) (base : Heap) : Prop := DefOk P w K mg base CX0 8 "__init__" "SimpleForms.__init__" s_SimpleForms_d_init [] (ad_SimpleForms_d_init K) ["self", "yard"] (sp_SimpleForms_d_init K)
abbrev O_Order_d_init (P : Program) (w : World) (K : PySem.W.Frag) (mg : Str → Option Value) (base : Heap) : Prop := DefOk P w K mg base CX0 10 "__init__" "Order.__init__" s_Order_d_init [] (ad_Order_d_init K) ["self", "yard"] (sp_Order_d_init K)
abbrev O_law_drawn (P : Program) (w : World) (K : PySem.W.Frag) (mg : Str → Option Value) (base : Heap) : Prop := DefOk P w K mg base CX0 1 "_law_drawn" "_law_drawn" s_law_drawn [] (ad_law_drawn K) ["model", "heights", "digits", "most"] (sp_law_drawn K)
abbrev O_law_digits (P : Program) (w : World) (K : PySem.W.Frag) (mg : Str → Option Value) (base : Heap) : Prop := DefOk P w K mg base CX0 1 "_law_digits" "_law_digits" s_law_digits [] (ad_law_digits K) ["cell", "count"] (sp_law_digits K)
abbrev O_law_cell (P : Program) (w : World) (K : PySem.W.Frag) (mg : Str → Option Value) (base : Heap) : Prop := DefOk P w K mg base CX0 1 "_law_cell" "_law_cell" s_law_cell [] (ad_law_cell K) ["script", "k"] (sp_law_cell K)
abbrev O_law_put (P : Program) (w : World) (K : PySem.W.Frag) (mg : Str → Option Value) (base : Heap) : Prop := DefOk P w K mg base CX0 1 "_law_put" "_law_put" s_law_put [] (ad_law_put K) ["model", "heights", "lefts", "rights"] (sp_law_put K)
abbrev O_law_family (P : Program) (w : World) (K : PySem.W.Frag) (mg : Str → Option Value) (base : Heap) : Prop := DefOk P w K mg base CX0 2 "_law_family" "_law_family" s_law_family [] (ad_law_family K) ["script", "first", "count", "most"] (sp_law_family K)
abbrev O_law_count (P : Program) (w : World) (K : PySem.W.Frag) (mg : Str → Option Value) (base : Heap) : Prop := DefOk P w K mg base CX0 1 "_law_count" "_law_count" s_law_count [] (ad_law_count K) ["cell"] (sp_law_count K)
abbrev O_Yard_p_kept (P : Program) (w : World) (K : PySem.W.Frag) (mg : Str → Option Value) (base : Heap) : Prop := DefOk P w K mg base CX0 1 "_kept" "Yard._kept" s_Yard_p_kept [] (ad_Yard_p_kept K) ["self", "lefts", "rights"] (sp_Yard_p_kept P w K)
abbrev O_Yard_m_game (P : Program) (w : World) (K : PySem.W.Frag) (mg : Str → Option Value) (base : Heap) : Prop := DefOk P w K mg base CX0 2 "game" "Yard.game" s_Yard_m_game [] (ad_Yard_m_game K) ["self", "lefts", "rights"] (sp_Yard_m_game P w K)
abbrev O_law_built (P : Program) (w : World) (K : PySem.W.Frag) (mg : Str → Option Value) (base : Heap) : Prop := DefOk P w K mg base CX0 3 "_law_built" "_law_built" s_law_built [] (ad_law_built K) ["yard", "model"] (sp_law_built P w K)
abbrev O_law_wins (P : Program) (w : World) (K : PySem.W.Frag) (mg : Str → Option Value) (base : Heap) : Prop := DefOk P w K mg base CX0 26 "_law_wins" "_law_wins" s_law_wins [] (ad_law_wins K) ["model", "known", "at", "side"] (sp_law_wins K 25)
abbrev O_Wins_m_can_win (P : Program) (w : World) (K : PySem.W.Frag) (mg : Str → Option Value) (base : Heap) : Prop := DefOk P w K mg base CX0 1 "can_win" "Wins.can_win" s_Wins_m_can_win [] (ad_Wins_m_can_win K) ["self", "game", "side"] (sp_Wins_m_can_win K)
abbrev O_Order_m_can_win (P : Program) (w : World) (K : PySem.W.Frag) (mg : Str → Option Value) (base : Heap) : Prop := DefOk P w K mg base CX0 4 "can_win" "Order.can_win" s_Order_m_can_win [] (ad_Order_m_can_win K) ["self", "game", "side"] (sp_Order_m_can_win P w K)
abbrev O_Order_m_outcome (P : Program) (w : World) (K : PySem.W.Frag) (mg : Str → Option Value) (base : Heap) : Prop := DefOk P w K mg base CX0 5 "outcome" "Order.outcome" s_Order_m_outcome [] (ad_Order_m_outcome K) ["self", "game"] (sp_Order_m_outcome P w K)
abbrev O_law_outcome (P : Program) (w : World) (K : PySem.W.Frag) (mg : Str → Option Value) (base : Heap) : Prop := DefOk P w K mg base CX0 27 "_law_outcome" "_law_outcome" s_law_outcome [] (ad_law_outcome K) ["order", "model", "numbers", "known", "at"] (sp_law_outcome P w K)
abbrev O_other_side (P : Program) (w : World) (K : PySem.W.Frag) (mg : Str → Option Value) (base : Heap) : Prop := DefOk P w K mg base CX0 1 "other_side" "other_side" s_other_side [] (ad_other_side K) ["side"] (sp_other_side K)
abbrev O_Yard_m_options (P : Program) (w : World) (K : PySem.W.Frag) (mg : Str → Option Value) (base : Heap) : Prop := DefOk P w K mg base CX0 3 "options" "Yard.options" s_Yard_m_options [] (ad_Yard_m_options K) ["self", "game", "side"] (sp_Yard_m_options P w K)
abbrev O_Order_m_winning (P : Program) (w : World) (K : PySem.W.Frag) (mg : Str → Option Value) (base : Heap) : Prop := DefOk P w K mg base CX0 5 "winning" "Order.winning" s_Order_m_winning [] (ad_Order_m_winning K) ["self", "game", "side"] (sp_Order_m_winning P w K)
abbrev O_law_is_integer (P : Program) (w : World) (K : PySem.W.Frag) (mg : Str → Option Value) (base : Heap) : Prop := DefOk P w K mg base CX0 1 "_law_is_integer" "_law_is_integer" s_law_is_integer [] (ad_law_is_integer K) ["thing"] (sp_law_is_integer K)
abbrev O_law_all_integers (P : Program) (w : World) (K : PySem.W.Frag) (mg : Str → Option Value) (base : Heap) : Prop := DefOk P w K mg base CX0 2 "_law_all_integers" "_law_all_integers" s_law_all_integers [] (ad_law_all_integers K) ["numbers"] (sp_law_all_integers K)
abbrev O_law_is_list (P : Program) (w : World) (K : PySem.W.Frag) (mg : Str → Option Value) (base : Heap) : Prop := DefOk P w K mg base CX0 3 "_law_is_list" "_law_is_list" s_law_is_list [] (ad_law_is_list K) ["told", "due"] (sp_law_is_list K)
abbrev O_law_moves (P : Program) (w : World) (K : PySem.W.Frag) (mg : Str → Option Value) (base : Heap) : Prop := DefOk P w K mg base CX0 27 "_law_moves" "_law_moves" s_law_moves [] (ad_law_moves K) ["order", "model", "numbers", "known", "at", "side"] (sp_law_moves P w K)
abbrev O_law (P : Program) (w : World) (K : PySem.W.Frag) (mg : Str → Option Value) (base : Heap) : Prop := DefOk P w K mg base CX0 28 "law" "law" s_law [] (ad_law K) ["script"] (sp_law P w K)
theorem ok_Yard_d_init {P : Program} {w : World} {K : PySem.W.Frag} {mg : Str → Option Value} {base : Heap} (T : Txt K mg)  : O_Yard_d_init P w K mg base := by
  obtain ⟨fd, X⟩ := T.d_Yard_d_init
  refine ⟨fd, X, X.ok sc_Yard_d_init (fun vs H Q E h => len_Yard_d_init h) (fun cdv A outer s H vs Q E hr h => ⟨t_Yard_d_init P w K E, PSs.nox ?_, pure_Yard_d_init T.FYard vs H Q E h⟩)⟩
  exact (pss_cons (ps_fld (pv 0) (pe_lst (pa_cons (pe_tup pa_nil) pa_nil)) rfl)
      (pss_cons (ps_fld (pv 0) (pe_lst (pa_cons (pe_tup pa_nil) pa_nil)) rfl)
      (pss_cons (ps_fld (pv 0) (pe_lst (pa_cons pe_int pa_nil)) rfl)
      (pss_cons (ps_fld (pv 0) (pe_ndisp (hu9 hr) (pe_tup (pa_cons (pe_tup pa_nil) (pa_cons (pe_tup pa_nil) pa_nil))) pe_int) rfl)
      (pss_one (ps_fld (pv 0) (pe_disp (pps_cons pe_int pe_int pps_nil) (by rfl) (by rfl) (fun z => by cases z) (by decide)) rfl))))))
theorem ok_Wins_d_init {P : Program} {w : World} {K : PySem.W.Frag} {mg : Str → Option Value} {base : Heap} (T : Txt K mg)  : O_Wins_d_init P w K mg base := by
  obtain ⟨fd, X⟩ := T.d_Wins_d_init
  refine ⟨fd, X, X.ok sc_Wins_d_init (fun vs H Q E h => len_Wins_d_init h) (fun cdv A outer s H vs Q E hr h => ⟨t_Wins_d_init K E, PSs.nox ?_, pure_Wins_d_init T.FWins vs H Q E h⟩)⟩
  exact (pss_cons (ps_fld (pv 0) (pv 1) rfl)
      (pss_cons (ps_fld (pv 0) (pe_lst pa_nil) rfl)
      (pss_one (ps_fld (pv 0) (pe_lst pa_nil) rfl))))
theorem ok_Pairs_d_init {P : Program} {w : World} {K : PySem.W.Frag} {mg : Str → Option Value} {base : Heap} (T : Txt K mg) (D_Wins_d_init : O_Wins_d_init P w K mg base) : O_Pairs_d_init P w K mg base := by
  obtain ⟨fd_Wins_d_init, X_Wins_d_init, G_Wins_d_init⟩ := D_Wins_d_init.ex
  have K_Wins_d_init := X_Wins_d_init.kp
  have B_Wins_d_init := X_Wins_d_init.bindsN (ps := ["self", "yard"]) fun _ _ _ _ _ _ us hl => match us, hl with | [_, _], _ => rfl
  have V_Wins_d_init : Vals [] [] := .nil
  obtain ⟨fd, X⟩ := T.d_Pairs_d_init
  refine ⟨fd, X, X.ok sc_Pairs_d_init (fun vs H Q E h => len_Pairs_d_init h) (fun cdv A outer s H vs Q E hr h => ⟨t_Pairs_d_init K E, PSs.nox ?_, pure_Pairs_d_init T.FPairs vs H Q E h⟩)⟩
  exact (pss_cons (ps_fld (pv 0) (pv 1) rfl)
      (pss_cons (ps_fld (pv 0) (pe_make T.mk_Wins G_Wins_d_init (hr.mono (by decide)) rfl T.g_Wins B_Wins_d_init V_Wins_d_init pass0 (pa_cons (pv 1) pa_nil)) rfl)
      (pss_cons (ps_fld (pv 0) (pe_lst pa_nil) rfl)
      (pss_cons (ps_fld (pv 0) (pe_lst pa_nil) rfl)
      (pss_one (ps_fld (pv 0) (pe_lst pa_nil) rfl))))))
theorem ok_Yard_m_size {P : Program} {w : World} {K : PySem.W.Frag} {mg : Str → Option Value} {base : Heap} (T : Txt K mg)  : O_Yard_m_size P w K mg base := by
  obtain ⟨fd, X⟩ := T.d_Yard_m_size
  refine ⟨fd, X, X.ok sc_Yard_m_size (fun vs H Q E h => len_Yard_m_size h) (fun cdv A outer s H vs Q E hr h => ⟨t_Yard_m_size K E, PSs.nox ?_, pure_Yard_m_size T.FYard vs H Q E h⟩)⟩
  exact (pss_one (ps_ret (pe_callB cr_lenQ rfl T.z_len (by decide +kernel) (pa_cons (pe_fld (pv 0) rfl) pa_nil))))
theorem ok_Yard_m_check {P : Program} {w : World} {K : PySem.W.Frag} {mg : Str → Option Value} {base : Heap} (T : Txt K mg)  : O_Yard_m_check P w K mg base := by
  obtain ⟨fd, X⟩ := T.d_Yard_m_check
  refine ⟨fd, X, X.ok sc_Yard_m_check (fun vs H Q E h => len_Yard_m_check h) (fun cdv A outer s H vs Q E hr h => ⟨t_Yard_m_check P w K E, PSs.nox ?_, pure_Yard_m_check T.FYard vs H Q E h⟩)⟩
  exact (pss_one (ps_if (pt_not (pt_chain op_le op_lt pe_int (pv 1) (pe_callB cr_lenQ rfl T.z_len (by decide +kernel) (pa_cons (pe_fld (pv 0) rfl) pa_nil)))) (pss_one ps_never) pss_nil))
theorem ok_Yard_m_lefts {P : Program} {w : World} {K : PySem.W.Frag} {mg : Str → Option Value} {base : Heap} (T : Txt K mg) (D_Yard_m_check : O_Yard_m_check P w K mg base) : O_Yard_m_lefts P w K mg base := by
  obtain ⟨fd_Yard_m_check, X_Yard_m_check, G_Yard_m_check⟩ := D_Yard_m_check.ex
  have K_Yard_m_check := X_Yard_m_check.kp
  have B_Yard_m_check := X_Yard_m_check.bindsN (ps := ["self", "game"]) fun _ _ _ _ _ _ us hl => match us, hl with | [_, _], _ => rfl
  have V_Yard_m_check : Vals [] [] := .nil
  obtain ⟨fd, X⟩ := T.d_Yard_m_lefts
  refine ⟨fd, X, X.ok sc_Yard_m_lefts (fun vs H Q E h => len_Yard_m_lefts h) (fun cdv A outer s H vs Q E hr h => ⟨t_Yard_m_lefts P w K E, PSs.nox ?_, pure_Yard_m_lefts T.FYard vs H Q E h⟩)⟩
  exact (pss_cons (ps_expr (pe_meth (pv 0) T.cl_Yard T.mt_Yard_check G_Yard_m_check (hr.mono (by decide)) B_Yard_m_check .nil pass0 (pa_cons (pv 1) pa_nil)))
      (pss_one (ps_ret (pe_callTy cr_listQ rfl T.z_list (by decide +kernel) (pa_cons (pe_ix ix_list (pe_fld (pv 0) rfl) (pv 1) (fun _ _ => rfl)) pa_nil)))))
theorem ok_Yard_m_rights {P : Program} {w : World} {K : PySem.W.Frag} {mg : Str → Option Value} {base : Heap} (T : Txt K mg) (D_Yard_m_check : O_Yard_m_check P w K mg base) : O_Yard_m_rights P w K mg base := by
  obtain ⟨fd_Yard_m_check, X_Yard_m_check, G_Yard_m_check⟩ := D_Yard_m_check.ex
  have K_Yard_m_check := X_Yard_m_check.kp
  have B_Yard_m_check := X_Yard_m_check.bindsN (ps := ["self", "game"]) fun _ _ _ _ _ _ us hl => match us, hl with | [_, _], _ => rfl
  have V_Yard_m_check : Vals [] [] := .nil
  obtain ⟨fd, X⟩ := T.d_Yard_m_rights
  refine ⟨fd, X, X.ok sc_Yard_m_rights (fun vs H Q E h => len_Yard_m_rights h) (fun cdv A outer s H vs Q E hr h => ⟨t_Yard_m_rights P w K E, PSs.nox ?_, pure_Yard_m_rights T.FYard vs H Q E h⟩)⟩
  exact (pss_cons (ps_expr (pe_meth (pv 0) T.cl_Yard T.mt_Yard_check G_Yard_m_check (hr.mono (by decide)) B_Yard_m_check .nil pass0 (pa_cons (pv 1) pa_nil)))
      (pss_one (ps_ret (pe_callTy cr_listQ rfl T.z_list (by decide +kernel) (pa_cons (pe_ix ix_list (pe_fld (pv 0) rfl) (pv 1) (fun _ _ => rfl)) pa_nil)))))
theorem ok_Wins_m_catch_up {P : Program} {w : World} {K : PySem.W.Frag} {mg : Str → Option Value} {base : Heap} (T : Txt K mg) (D_Yard_m_size : O_Yard_m_size P w K mg base) (D_Yard_m_lefts : O_Yard_m_lefts P w K mg base) (D_Yard_m_rights : O_Yard_m_rights P w K mg base) : O_Wins_m_catch_up P w K mg base := by
  obtain ⟨fd_Yard_m_size, X_Yard_m_size, G_Yard_m_size⟩ := D_Yard_m_size.ex
  have K_Yard_m_size := X_Yard_m_size.kp
  have B_Yard_m_size := X_Yard_m_size.bindsN (ps := ["self"]) fun _ _ _ _ _ _ us hl => match us, hl with | [_], _ => rfl
  have V_Yard_m_size : Vals [] [] := .nil
  obtain ⟨fd_Yard_m_lefts, X_Yard_m_lefts, G_Yard_m_lefts⟩ := D_Yard_m_lefts.ex
  have K_Yard_m_lefts := X_Yard_m_lefts.kp
  have B_Yard_m_lefts := X_Yard_m_lefts.bindsN (ps := ["self", "game"]) fun _ _ _ _ _ _ us hl => match us, hl with | [_, _], _ => rfl
  have V_Yard_m_lefts : Vals [] [] := .nil
  obtain ⟨fd_Yard_m_rights, X_Yard_m_rights, G_Yard_m_rights⟩ := D_Yard_m_rights.ex
  have K_Yard_m_rights := X_Yard_m_rights.kp
  have B_Yard_m_rights := X_Yard_m_rights.bindsN (ps := ["self", "game"]) fun _ _ _ _ _ _ us hl => match us, hl with | [_, _], _ => rfl
  have V_Yard_m_rights : Vals [] [] := .nil
  obtain ⟨fd, X⟩ := T.d_Wins_m_catch_up
  refine ⟨fd, X, X.ok sc_Wins_m_catch_up (fun vs H Q E h => len_Wins_m_catch_up h) (fun cdv A outer s H vs Q E hr h => ⟨t_Wins_m_catch_up P w K E, PSs.nox ?_, pure_Wins_m_catch_up T.FWins vs H Q E h⟩)⟩
  exact (pss_cons (ps_set (i := 1) sc_Wins_m_catch_up.nd rfl (Or.inl rfl) (pe_callB cr_lenQ rfl T.z_len (by decide +kernel) (pa_cons (pe_fld (pv 0) rfl) pa_nil)))
      (pss_one (ps_for PassesOwn.never rfl (pi_range2 rfl T.z_range (pa_cons (pv 1) (pa_cons (pe_prop (pe_fld (pv 0) rfl) T.cl_Yard T.pr_Yard_size G_Yard_m_size (hr.mono (by decide)) B_Yard_m_size .nil pass0 (by rfl)) pa_nil))) (pg_name (i := 2) sc_Wins_m_catch_up.nd rfl (Or.inl rfl))
      (pss_cons (ps_set (i := 3) sc_Wins_m_catch_up.nd rfl (Or.inl rfl) (pe_meth (pe_fld (pv 0) rfl) T.cl_Yard T.mt_Yard_lefts G_Yard_m_lefts (hr.mono (by decide)) B_Yard_m_lefts .nil pass0 (pa_cons (pv 2) pa_nil)))
      (pss_cons (ps_set (i := 4) sc_Wins_m_catch_up.nd rfl (Or.inl rfl) (pe_meth (pe_fld (pv 0) rfl) T.cl_Yard T.mt_Yard_rights G_Yard_m_rights (hr.mono (by decide)) B_Yard_m_rights .nil pass0 (pa_cons (pv 2) pa_nil)))
      (pss_cons (ps_set (i := 5) sc_Wins_m_catch_up.nd rfl (Or.inl rfl) (pe_callB (cr_any rfl) rfl T.z_any (by decide +kernel) (pa_cons (pe_lc (own := [("option", 6)]) (g := (gName 6)) (tt := tYes) rfl sc_Wins_m_catch_up.nd (pi_list (pv 3)) (blkOk_by (N := R_Wins_m_catch_up) (sc := defScope s_Wins_m_catch_up) (by decide +kernel)) (fun _ _ _ _ _ => (pg_name (i := 6) sc_Wins_m_catch_up.nd rfl (Or.inl rfl))) (fun _ _ _ _ _ => pts_nil) (fun _ _ _ _ _ => (pe_not (pe_ix ix_list (pe_fld (pv 0) rfl) (pv 6) (fun _ _ => rfl))))) pa_nil)))
      (pss_cons (ps_set (i := 7) sc_Wins_m_catch_up.nd rfl (Or.inl rfl) (pe_callB (cr_any rfl) rfl T.z_any (by decide +kernel) (pa_cons (pe_lc (own := [("option", 6)]) (g := (gName 6)) (tt := tYes) rfl sc_Wins_m_catch_up.nd (pi_list (pv 4)) (blkOk_by (N := R_Wins_m_catch_up) (sc := defScope s_Wins_m_catch_up) (by decide +kernel)) (fun _ _ _ _ _ => (pg_name (i := 6) sc_Wins_m_catch_up.nd rfl (Or.inl rfl))) (fun _ _ _ _ _ => pts_nil) (fun _ _ _ _ _ => (pe_not (pe_ix ix_list (pe_fld (pv 0) rfl) (pv 6) (fun _ _ => rfl))))) pa_nil)))
      (pss_cons (ps_expr (pe_bm PySem.F.plainAttrs_list PySem.F.slot_list_append PySem.F.type_list_append mt_append (pe_fld (pv 0) rfl) (pa_cons (pv 5) pa_nil)))
      (pss_one (ps_expr (pe_bm PySem.F.plainAttrs_list PySem.F.slot_list_append PySem.F.type_list_append mt_append (pe_fld (pv 0) rfl) (pa_cons (pv 7) pa_nil))))))))))))
theorem ok_Pairs_m_catch_up {P : Program} {w : World} {K : PySem.W.Frag} {mg : Str → Option Value} {base : Heap} (T : Txt K mg) (D_Wins_m_catch_up : O_Wins_m_catch_up P w K mg base) (D_Yard_m_size : O_Yard_m_size P w K mg base) (D_Yard_m_lefts : O_Yard_m_lefts P w K mg base) (D_Yard_m_rights : O_Yard_m_rights P w K mg base) : O_Pairs_m_catch_up P w K mg base := by
  obtain ⟨fd_Wins_m_catch_up, X_Wins_m_catch_up, G_Wins_m_catch_up⟩ := D_Wins_m_catch_up.ex
  have K_Wins_m_catch_up := X_Wins_m_catch_up.kp
  have B_Wins_m_catch_up := X_Wins_m_catch_up.bindsN (ps := ["self"]) fun _ _ _ _ _ _ us hl => match us, hl with | [_], _ => rfl
  have V_Wins_m_catch_up : Vals [] [] := .nil
  obtain ⟨fd_Yard_m_size, X_Yard_m_size, G_Yard_m_size⟩ := D_Yard_m_size.ex
  have K_Yard_m_size := X_Yard_m_size.kp
  have B_Yard_m_size := X_Yard_m_size.bindsN (ps := ["self"]) fun _ _ _ _ _ _ us hl => match us, hl with | [_], _ => rfl
  have V_Yard_m_size : Vals [] [] := .nil
  obtain ⟨fd_Yard_m_lefts, X_Yard_m_lefts, G_Yard_m_lefts⟩ := D_Yard_m_lefts.ex
  have K_Yard_m_lefts := X_Yard_m_lefts.kp
  have B_Yard_m_lefts := X_Yard_m_lefts.bindsN (ps := ["self", "game"]) fun _ _ _ _ _ _ us hl => match us, hl with | [_, _], _ => rfl
  have V_Yard_m_lefts : Vals [] [] := .nil
  obtain ⟨fd_Yard_m_rights, X_Yard_m_rights, G_Yard_m_rights⟩ := D_Yard_m_rights.ex
  have K_Yard_m_rights := X_Yard_m_rights.kp
  have B_Yard_m_rights := X_Yard_m_rights.bindsN (ps := ["self", "game"]) fun _ _ _ _ _ _ us hl => match us, hl with | [_, _], _ => rfl
  have V_Yard_m_rights : Vals [] [] := .nil
  obtain ⟨fd, X⟩ := T.d_Pairs_m_catch_up
  refine ⟨fd, X, X.ok sc_Pairs_m_catch_up (fun vs H Q E h => len_Pairs_m_catch_up h) (fun cdv A outer s H vs Q E hr h => ⟨t_Pairs_m_catch_up P w K E, PSs.nox ?_, pure_Pairs_m_catch_up T.FPairs vs H Q E h⟩)⟩
  exact (pss_cons (ps_expr (pe_meth0 (pe_fld (pv 0) rfl) T.cl_Wins T.mt_Wins_catch_up G_Wins_m_catch_up (hr.mono (by decide)) B_Wins_m_catch_up .nil pass0))
      (pss_cons (ps_set (i := 1) sc_Pairs_m_catch_up.nd rfl (Or.inl rfl) (pe_callB cr_lenQ rfl T.z_len (by decide +kernel) (pa_cons (pe_fld (pv 0) rfl) pa_nil)))
      (pss_one (ps_for PassesOwn.never rfl (pi_range2 rfl T.z_range (pa_cons (pv 1) (pa_cons (pe_prop (pe_fld (pv 0) rfl) T.cl_Yard T.pr_Yard_size G_Yard_m_size (hr.mono (by decide)) B_Yard_m_size .nil pass0 (by rfl)) pa_nil))) (pg_name (i := 2) sc_Pairs_m_catch_up.nd rfl (Or.inl rfl))
      (pss_cons (ps_expr (pe_bm PySem.F.plainAttrs_list PySem.F.slot_list_append PySem.F.type_list_append mt_append (pe_fld (pv 0) rfl) (pa_cons (pe_meth (pe_fld (pv 0) rfl) T.cl_Yard T.mt_Yard_lefts G_Yard_m_lefts (hr.mono (by decide)) B_Yard_m_lefts .nil pass0 (pa_cons (pv 2) pa_nil)) pa_nil)))
      (pss_cons (ps_expr (pe_bm PySem.F.plainAttrs_list PySem.F.slot_list_append PySem.F.type_list_append mt_append (pe_fld (pv 0) rfl) (pa_cons (pe_meth (pe_fld (pv 0) rfl) T.cl_Yard T.mt_Yard_rights G_Yard_m_rights (hr.mono (by decide)) B_Yard_m_rights .nil pass0 (pa_cons (pv 2) pa_nil)) pa_nil)))
      (pss_one (ps_expr (pe_bm PySem.F.plainAttrs_list PySem.F.slot_list_append PySem.F.type_list_append mt_append (pe_fld (pv 0) rfl) (pa_cons pe_dnewK pa_nil))))))))))
theorem ok_Ranks_d_init {P : Program} {w : World} {K : PySem.W.Frag} {mg : Str → Option Value} {base : Heap} (T : Txt K mg)  : O_Ranks_d_init P w K mg base := by
  obtain ⟨fd, X⟩ := T.d_Ranks_d_init
  refine ⟨fd, X, X.ok sc_Ranks_d_init (fun vs H Q E h => len_Ranks_d_init h) (fun cdv A outer s H vs Q E hr h => ⟨t_Ranks_d_init K E, PSs.nox ?_, pure_Ranks_d_init T.FRanks vs H Q E h⟩)⟩
  exact (pss_cons (ps_fld (pv 0) (pv 1) rfl)
      (pss_cons (ps_fld (pv 0) pe_dnewK rfl)
      (pss_cons (ps_fld (pv 0) (pe_lst pa_nil) rfl)
      (pss_cons (ps_fld (pv 0) (pe_disp (pps_cons pe_str pe_dnewK (pps_cons pe_str pe_dnewK pps_nil)) (by rfl) (by rfl) (fun z => by cases z) (by decide)) rfl)
      (pss_one (ps_fld (pv 0) (pe_disp (pps_cons pe_str pe_dnewK (pps_cons pe_str pe_dnewK pps_nil)) (by rfl) (by rfl) (fun z => by cases z) (by decide)) rfl))))))
theorem ok_is_whole {P : Program} {w : World} {K : PySem.W.Frag} {mg : Str → Option Value} {base : Heap} (T : Txt K mg)  : O_is_whole P w K mg base := by
  obtain ⟨fd, X⟩ := T.d_is_whole
  refine ⟨fd, X, X.ok sc_is_whole (fun vs H Q E h => len_is_whole h) (fun cdv A outer s H vs Q E hr h => ⟨t_is_whole K E, PSs.nox ?_, pure_is_whole vs H Q E h⟩)⟩
  exact (pss_one (ps_ret (pe_and (pe_cmpR op_isTyB (pe_callTy call_type1 rfl T.z_type (by decide +kernel) (pa_cons (pv 0) pa_nil)) (pe_bltn rfl T.z_int (by decide +kernel) rfl) (nomark _)) (pe_one (pe_chain op_le op_le (pv 1) (pv 0) (pv 2))))))
theorem ok_plain {P : Program} {w : World} {K : PySem.W.Frag} {mg : Str → Option Value} {base : Heap} (T : Txt K mg)  : O_plain P w K mg base := by
  obtain ⟨fd, X⟩ := T.d_plain
  refine ⟨fd, X, X.ok sc_plain (fun vs H Q E h => len_plain h) (fun cdv A outer s H vs Q E hr h => ⟨t_plain K E, PSs.nox ?_, pure_plain vs H Q E h⟩)⟩
  exact (pss_cons (ps_while PassesOwn.never (PW.pt (pw_and (pt_cmpR op_gt (pv 1) pe_int (nomark _)) (pw_and1 (pt_cmpR op_eq (pe_op op_and (pv 0) pe_int) pe_int (nomark _))))) (pss_cons (ps_set (i := 0) sc_plain.nd rfl (Or.inl rfl) (pe_op op_shr (pv 0) pe_int))
      (pss_one (ps_set (i := 1) sc_plain.nd rfl (Or.inl rfl) (pe_op op_sub (pv 1) pe_int)))))
      (pss_one (ps_ret (pe_tup (pa_cons (pv 0) (pa_cons (pv 1) pa_nil))))))
theorem ok_Dyadic_d_init {P : Program} {w : World} {K : PySem.W.Frag} {mg : Str → Option Value} {base : Heap} (T : Txt K mg) (D_is_whole : O_is_whole P w K mg base) (D_plain : O_plain P w K mg base) : O_Dyadic_d_init P w K mg base := by
  obtain ⟨fd_is_whole, X_is_whole, G_is_whole⟩ := D_is_whole.ex
  have K_is_whole := X_is_whole.kp
  have B_is_whole := X_is_whole.bindsN (ps := ["thing", "least", "most"]) fun _ _ _ _ _ _ us hl => match us, hl with | [_, _, _], _ => rfl
  have V_is_whole : Vals [] [] := .nil
  obtain ⟨fd_plain, X_plain, G_plain⟩ := D_plain.ex
  have K_plain := X_plain.kp
  have B_plain := X_plain.bindsN (ps := ["top", "power"]) fun _ _ _ _ _ _ us hl => match us, hl with | [_, _], _ => rfl
  have V_plain : Vals [] [] := .nil
  obtain ⟨fd, X⟩ := T.d_Dyadic_d_init
  refine ⟨fd, X, X.ok sc_Dyadic_d_init (fun vs H Q E h => len_Dyadic_d_init h) (fun cdv A outer s H vs Q E hr h => ⟨t_Dyadic_d_init K E, ?_, pure_Dyadic_d_init T.FDyadic vs H Q E h⟩)⟩
  exact (pss_cons (ps_if (pt_not (pt_val (pe_call G_is_whole (hr.mono (by decide)) rfl T.g_is_whole K_is_whole B_is_whole V_is_whole pass0 (pa_cons (pv 1) (pa_cons (pe_un un_neg (C8.pe_gc rfl (cst_ok T.c_MOST_TOP))) (pa_cons (C8.pe_gc rfl (cst_ok T.c_MOST_TOP)) pa_nil)))))) (pss_one (ps_raise rfl (takes_of rfl rfl rfl rfl) (pmk_own PySem.F.excBase_ValueError T.x_BadValue.1 T.g_BadValue T.x_BadValue.2.1 (raises_own T.x_BadValue.2.2.1 T.x_BadValue.2.2.2) (by exact rfl)))) pss_nil)
      (pss_cons (ps_if (pt_not (pt_val (pe_call G_is_whole (hr.mono (by decide)) rfl T.g_is_whole K_is_whole B_is_whole V_is_whole pass0 (pa_cons (pv 2) (pa_cons pe_int (pa_cons (C8.pe_gc rfl (cst_ok T.c_MOST_POWER)) pa_nil)))))) (pss_one (ps_raise rfl (takes_of rfl rfl rfl rfl) (pmk_own PySem.F.excBase_ValueError T.x_BadValue.1 T.g_BadValue T.x_BadValue.2.1 (raises_own T.x_BadValue.2.2.1 T.x_BadValue.2.2.2) (by exact rfl)))) pss_nil)
      (pss_one (ps_asg (pe_call G_plain (hr.mono (by decide)) rfl T.g__plain K_plain B_plain V_plain pass0 (pa_cons (pv 1) (pa_cons (pv 2) pa_nil))) (pg_tup rfl (pgs_cons (pg_fld (pv 0)) (pgs_cons (pg_fld (pv 0)) pgs_nil)))))))
theorem ok_Dyads_d_init {P : Program} {w : World} {K : PySem.W.Frag} {mg : Str → Option Value} {base : Heap} (T : Txt K mg) (D_Dyadic_d_init : O_Dyadic_d_init P w K mg base) : O_Dyads_d_init P w K mg base := by
  obtain ⟨fd_Dyadic_d_init, X_Dyadic_d_init, G_Dyadic_d_init⟩ := D_Dyadic_d_init.ex
  have K_Dyadic_d_init := X_Dyadic_d_init.kp
  obtain ⟨W_Dyadic_d_init_2, V_Dyadic_d_init_2, B_Dyadic_d_init_2⟩ := X_Dyadic_d_init.binds1 (ps := ["self", "top", "power"]) 2 0 (List.cons_ne_nil _ _) rfl fun _ _ _ _ _ _ _ us its hl hm => match us, its, hl, hm with | [_, _], [_], _, _ => ⟨_, rfl, rfl⟩
  obtain ⟨fd, X⟩ := T.d_Dyads_d_init
  refine ⟨fd, X, X.ok sc_Dyads_d_init (fun vs H Q E h => len_Dyads_d_init h) (fun cdv A outer s H vs Q E hr h => ⟨t_Dyads_d_init K E, PSs.nox ?_, pure_Dyads_d_init T.FDyads vs H Q E h⟩)⟩
  exact (pss_cons (ps_fld (pv 0) (pv 1) rfl)
      (pss_cons (ps_fld (pv 0) (pe_disp (pps_cons pe_int (pe_make T.mk_Dyadic G_Dyadic_d_init (hr.mono (by decide)) rfl T.g_Dyadic B_Dyadic_d_init_2 V_Dyadic_d_init_2 passL (pa_cons pe_int pa_nil)) pps_nil) (by rfl) (by rfl) (fun z => by cases z) (by decide)) rfl)
      (pss_one (ps_fld (pv 0) (pe_dispT (hu9 hr) (pe_tup (pa_cons pe_int (pa_cons pe_int pa_nil))) pe_int) rfl))))
theorem ok_SimpleSums_d_init {P : Program} {w : World} {K : PySem.W.Frag} {mg : Str → Option Value} {base : Heap} (T : Txt K mg) (D_Dyads_d_init : O_Dyads_d_init P w K mg base) : O_SimpleSums_d_init P w K mg base := by
  obtain ⟨fd_Dyads_d_init, X_Dyads_d_init, G_Dyads_d_init⟩ := D_Dyads_d_init.ex
  have K_Dyads_d_init := X_Dyads_d_init.kp
  have B_Dyads_d_init := X_Dyads_d_init.bindsN (ps := ["self", "yard"]) fun _ _ _ _ _ _ us hl => match us, hl with | [_, _], _ => rfl
  have V_Dyads_d_init : Vals [] [] := .nil
  obtain ⟨fd, X⟩ := T.d_SimpleSums_d_init
  refine ⟨fd, X, X.ok sc_SimpleSums_d_init (fun vs H Q E h => len_SimpleSums_d_init h) (fun cdv A outer s H vs Q E hr h => ⟨t_SimpleSums_d_init K E, PSs.nox ?_, pure_SimpleSums_d_init T.FSimpleSums vs H Q E h⟩)⟩
  exact (pss_cons (ps_fld (pv 0) (pv 1) rfl)
      (pss_cons (ps_fld (pv 0) (pv 2) rfl)
      (pss_cons (ps_fld (pv 0) (pe_make T.mk_Dyads G_Dyads_d_init (hr.mono (by decide)) rfl T.g_Dyads B_Dyads_d_init V_Dyads_d_init pass0 (pa_cons (pv 1) pa_nil)) rfl)
      (pss_one (ps_fld (pv 0) pe_dnewT rfl)))))
theorem ok_SimpleForms_d_init {P : Program} {w : World} {K : PySem.W.Frag} {mg : Str → Option Value} {base : Heap} (T : Txt K mg) (D_Yard_d_init : O_Yard_d_init P w K mg base) (D_Pairs_d_init : O_Pairs_d_init P w K mg base) (D_Pairs_m_catch_up : O_Pairs_m_catch_up P w K mg base) (D_Ranks_d_init : O_Ranks_d_init P w K mg base) (D_SimpleSums_d_init : O_SimpleSums_d_init P w K mg base) : O_SimpleForms_d_init P w K mg base := by
  obtain ⟨fd_Yard_d_init, X_Yard_d_init, G_Yard_d_init⟩ := D_Yard_d_init.ex
  have K_Yard_d_init := X_Yard_d_init.kp
  have B_Yard_d_init := X_Yard_d_init.bindsN (ps := ["self"]) fun _ _ _ _ _ _ us hl => match us, hl with | [_], _ => rfl
  have V_Yard_d_init : Vals [] [] := .nil
  obtain ⟨fd_Pairs_d_init, X_Pairs_d_init, G_Pairs_d_init⟩ := D_Pairs_d_init.ex
  have K_Pairs_d_init := X_Pairs_d_init.kp
  have B_Pairs_d_init := X_Pairs_d_init.bindsN (ps := ["self", "yard"]) fun _ _ _ _ _ _ us hl => match us, hl with | [_, _], _ => rfl
  have V_Pairs_d_init : Vals [] [] := .nil
  obtain ⟨fd_Pairs_m_catch_up, X_Pairs_m_catch_up, G_Pairs_m_catch_up⟩ := D_Pairs_m_catch_up.ex
  have K_Pairs_m_catch_up := X_Pairs_m_catch_up.kp
  have B_Pairs_m_catch_up := X_Pairs_m_catch_up.bindsN (ps := ["self"]) fun _ _ _ _ _ _ us hl => match us, hl with | [_], _ => rfl
  have V_Pairs_m_catch_up : Vals [] [] := .nil
  obtain ⟨fd_Ranks_d_init, X_Ranks_d_init, G_Ranks_d_init⟩ := D_Ranks_d_init.ex
  have K_Ranks_d_init := X_Ranks_d_init.kp
  have B_Ranks_d_init := X_Ranks_d_init.bindsN (ps := ["self", "pairs"]) fun _ _ _ _ _ _ us hl => match us, hl with | [_, _], _ => rfl
  have V_Ranks_d_init : Vals [] [] := .nil
  obtain ⟨fd_SimpleSums_d_init, X_SimpleSums_d_init, G_SimpleSums_d_init⟩ := D_SimpleSums_d_init.ex
  have K_SimpleSums_d_init := X_SimpleSums_d_init.kp
  have B_SimpleSums_d_init := X_SimpleSums_d_init.bindsN (ps := ["self", "yard", "reduced"]) fun _ _ _ _ _ _ us hl => match us, hl with | [_, _, _], _ => rfl
  have V_SimpleSums_d_init : Vals [] [] := .nil
  obtain ⟨fd, X⟩ := T.d_SimpleForms_d_init
  refine ⟨fd, X, X.ok sc_SimpleForms_d_init (fun vs H Q E h => len_SimpleForms_d_init h) (fun cdv A outer s H vs Q E hr h => ⟨t_SimpleForms_d_init P w K E, PSs.nox ?_, pure_SimpleForms_d_init T.FSimpleForms vs H Q E h⟩)⟩
  exact (pss_cons (ps_fld (pv 0) (pv 1) rfl)
      (pss_cons (ps_fld (pv 0) (pe_make0 T.mk_Yard G_Yard_d_init (hr.mono (by decide)) rfl T.g_Yard B_Yard_d_init V_Yard_d_init pass0) rfl)
      (pss_cons (ps_fld (pv 0) (pe_make T.mk_Pairs G_Pairs_d_init (hr.mono (by decide)) rfl T.g_Pairs B_Pairs_d_init V_Pairs_d_init pass0 (pa_cons (pe_fld (pv 0) rfl) pa_nil)) rfl)
      (pss_cons (ps_expr (pe_meth0 (pe_fld (pv 0) rfl) T.cl_Pairs T.mt_Pairs_catch_up G_Pairs_m_catch_up (hr.mono (by decide)) B_Pairs_m_catch_up .nil pass0))
      (pss_cons (ps_fld (pv 0) (pe_make T.mk_Ranks G_Ranks_d_init (hr.mono (by decide)) rfl T.g_Ranks B_Ranks_d_init V_Ranks_d_init pass0 (pa_cons (pe_fld (pv 0) rfl) pa_nil)) rfl)
      (pss_cons (ps_fld (pv 0) (pe_make T.mk_SimpleSums G_SimpleSums_d_init (hr.mono (by decide)) rfl T.g_SimpleSums B_SimpleSums_d_init V_SimpleSums_d_init pass0 (pa_cons (pe_fld (pv 0) rfl) (pa_cons (pe_bndM (pv 0) T.cl_SimpleForms T.bm_SimpleForms_reduced) pa_nil))) rfl)
      (pss_cons (ps_fld (pv 0) pe_dnewK rfl)
      (pss_cons (ps_fld (pv 0) (pe_disp (pps_cons pe_int pe_int pps_nil) (by rfl) (by rfl) (fun z => by cases z) (by decide)) rfl)
      (pss_one (ps_fld (pv 0) (pe_disp (pps_cons pe_int pe_int pps_nil) (by rfl) (by rfl) (fun z => by cases z) (by decide)) rfl))))))))))
theorem ok_Order_d_init {P : Program} {w : World} {K : PySem.W.Frag} {mg : Str → Option Value} {base : Heap} (T : Txt K mg) (D_Wins_d_init : O_Wins_d_init P w K mg base) (D_SimpleForms_d_init : O_SimpleForms_d_init P w K mg base) : O_Order_d_init P w K mg base := by
  obtain ⟨fd_Wins_d_init, X_Wins_d_init, G_Wins_d_init⟩ := D_Wins_d_init.ex
  have K_Wins_d_init := X_Wins_d_init.kp
  have B_Wins_d_init := X_Wins_d_init.bindsN (ps := ["self", "yard"]) fun _ _ _ _ _ _ us hl => match us, hl with | [_, _], _ => rfl
  have V_Wins_d_init : Vals [] [] := .nil
  obtain ⟨fd_SimpleForms_d_init, X_SimpleForms_d_init, G_SimpleForms_d_init⟩ := D_SimpleForms_d_init.ex
  have K_SimpleForms_d_init := X_SimpleForms_d_init.kp
  have B_SimpleForms_d_init := X_SimpleForms_d_init.bindsN (ps := ["self", "yard"]) fun _ _ _ _ _ _ us hl => match us, hl with | [_, _], _ => rfl
  have V_SimpleForms_d_init : Vals [] [] := .nil
  obtain ⟨fd, X⟩ := T.d_Order_d_init
  refine ⟨fd, X, X.ok sc_Order_d_init (fun vs H Q E h => len_Order_d_init h) (fun cdv A outer s H vs Q E hr h => ⟨t_Order_d_init K E, PSs.nox ?_, pure_Order_d_init T.FOrder vs H Q E h⟩)⟩
  exact (pss_cons (ps_fld (pv 0) (pv 1) rfl)
      (pss_cons (ps_fld (pv 0) (pe_make T.mk_Wins G_Wins_d_init (hr.mono (by decide)) rfl T.g_Wins B_Wins_d_init V_Wins_d_init pass0 (pa_cons (pv 1) pa_nil)) rfl)
      (pss_one (ps_fld (pv 0) (pe_make T.mk_SimpleForms G_SimpleForms_d_init (hr.mono (by decide)) rfl T.g_SimpleForms B_SimpleForms_d_init V_SimpleForms_d_init pass0 (pa_cons (pv 1) pa_nil)) rfl))))
theorem ok_law_drawn {P : Program} {w : World} {K : PySem.W.Frag} {mg : Str → Option Value} {base : Heap} (T : Txt K mg)  : O_law_drawn P w K mg base := by
  obtain ⟨fd, X⟩ := T.d_law_drawn
  refine ⟨fd, X, X.ok sc_law_drawn (fun vs H Q E h => len_law_drawn h) (fun cdv A outer s H vs Q E hr h => ⟨t_law_drawn K E, PSs.nox ?_, pure_law_drawn vs H Q E h⟩)⟩
  exact (pss_cons (ps_asg (pe_lc (own := [("k", 5)]) (g := (gName 5)) (tt := (tTest (tOp rLtI (tOp (rIxL K) (tVar 1) (tVar 5)) (tVar 3)))) rfl sc_law_drawn.nd (pi_range1 rfl T.z_range (pa_cons (pe_callB cr_lenQ rfl T.z_len (by decide +kernel) (pa_cons (pv 0) pa_nil)) pa_nil)) (blkOk_by (N := R_law_drawn) (sc := defScope s_law_drawn) (by decide +kernel)) (fun _ _ _ _ _ => (pg_name (i := 5) sc_law_drawn.nd rfl (Or.inl rfl))) (fun _ _ _ _ _ => (pts_one (pt_cmpR op_lt (pe_ix ix_list (pv 1) (pv 5) (fun _ _ => rfl)) (pv 3) (nomark _)))) (fun _ _ _ _ _ => (pv 5))) (pg_name (i := 4) sc_law_drawn.nd rfl (Or.inr rfl)))
      (Evl.pss_cut (ps_if (pt_cmpR op_eq (pe_op op_mod (pe_callTy cr_intI rfl T.z_int (by decide +kernel) (pa_cons (pe_ix ix_list (pv 2) pe_int (fun _ _ => rfl)) pa_nil)) pe_int) pe_int (nomark _)) (pss_one (ps_set (i := 4) sc_law_drawn.nd rfl (Or.inr rfl) (pe_slice sl_list (pv 4) (po_some (pe_un un_neg pe_int)) po_none))) pss_nil)
      (pss_cons (ps_setLc (i := 6) (own := [("k", 5)]) (g := (gName 5)) (tt := tYes) rfl sc_law_drawn.nd rfl rfl (sw_true rfl rfl rfl (by decide +kernel)) (pi_range1 rfl T.z_range (pa_cons (pe_op op_mod (pe_callTy cr_intI rfl T.z_int (by decide +kernel) (pa_cons (pe_ix ix_list (pv 2) pe_int (fun _ _ => rfl)) pa_nil)) pe_int) pa_nil)) (blkOk_by (N := R_law_drawn) (sc := defScope s_law_drawn) (by decide +kernel)) (fun _ _ _ _ _ => (pg_name (i := 5) sc_law_drawn.nd rfl (Or.inl rfl))) (fun _ _ _ _ _ => pts_nil) (fun _ _ _ _ _ => (pe_ix ix_list (pv 4) (pe_op op_mod (pe_callTy cr_intI rfl T.z_int (by decide +kernel) (pa_cons (pe_ix ix_list (pv 2) (pe_op op_add pe_int (pv 5)) (fun _ _ => rfl)) pa_nil)) (pe_callB cr_lenQ rfl T.z_len (by decide +kernel) (pa_cons (pv 4) pa_nil))) (fun _ _ => rfl))))
      (pss_cons (ps_setLc (i := 7) (own := [("k", 5)]) (g := (gName 5)) (tt := tYes) rfl sc_law_drawn.nd rfl rfl (sw_true rfl rfl rfl (by decide +kernel)) (pi_range1 rfl T.z_range (pa_cons (pe_op op_mod (pe_callTy cr_intI rfl T.z_int (by decide +kernel) (pa_cons (pe_ix ix_list (pv 2) pe_int (fun _ _ => rfl)) pa_nil)) pe_int) pa_nil)) (blkOk_by (N := R_law_drawn) (sc := defScope s_law_drawn) (by decide +kernel)) (fun _ _ _ _ _ => (pg_name (i := 5) sc_law_drawn.nd rfl (Or.inl rfl))) (fun _ _ _ _ _ => pts_nil) (fun _ _ _ _ _ => (pe_ix ix_list (pv 4) (pe_op op_mod (pe_callTy cr_intI rfl T.z_int (by decide +kernel) (pa_cons (pe_ix ix_list (pv 2) (pe_op op_add pe_int (pv 5)) (fun _ _ => rfl)) pa_nil)) (pe_callB cr_lenQ rfl T.z_len (by decide +kernel) (pa_cons (pv 4) pa_nil))) (fun _ _ => rfl))))
      (pss_cons (ps_set (i := 8) sc_law_drawn.nd rfl (Or.inl rfl) (pe_ix ix_list (pv 0) (pe_op op_mod (pe_callTy cr_intI rfl T.z_int (by decide +kernel) (pa_cons (pe_ix ix_list (pv 2) pe_int (fun _ _ => rfl)) pa_nil)) (pe_callB cr_lenQ rfl T.z_len (by decide +kernel) (pa_cons (pv 0) pa_nil))) (fun _ _ => rfl)))
      (pss_cons (ps_if (pt_cmpR op_eq (pe_op op_mod (pe_op op_fdiv (pe_ix ix_list (pv 2) pe_int (fun _ _ => rfl)) pe_int) pe_int) pe_int (nomark _)) (pss_one (ps_ret (pe_tup (pa_cons (pe_slice sl_list (pe_op op_cat (pe_ix ix_tup (pv 8) pe_int (fun _ _ => rfl)) (pe_slice sl_list (pv 6) po_none (po_some pe_int))) (po_some (pe_un un_neg pe_int)) po_none) (pa_cons (pe_ix ix_tup (pv 8) pe_int (fun _ _ => rfl)) pa_nil))))) pss_nil)
      (pss_cons (ps_if (pt_cmpR op_eq (pe_op op_mod (pe_op op_fdiv (pe_ix ix_list (pv 2) pe_int (fun _ _ => rfl)) pe_int) pe_int) pe_int (nomark _)) (pss_one (ps_ret (pe_tup (pa_cons (pe_ix ix_tup (pv 8) pe_int (fun _ _ => rfl)) (pa_cons (pe_slice sl_list (pe_op op_cat (pe_ix ix_tup (pv 8) pe_int (fun _ _ => rfl)) (pe_slice sl_list (pv 7) po_none (po_some pe_int))) (po_some (pe_un un_neg pe_int)) po_none) pa_nil))))) pss_nil)
      (pss_one (ps_ret (pe_tup (pa_cons (pv 6) (pa_cons (pv 7) pa_nil))))))))))))
theorem ok_law_digits {P : Program} {w : World} {K : PySem.W.Frag} {mg : Str → Option Value} {base : Heap} (T : Txt K mg)  : O_law_digits P w K mg base := by
  obtain ⟨fd, X⟩ := T.d_law_digits
  refine ⟨fd, X, X.ok sc_law_digits (fun vs H Q E h => len_law_digits h) (fun cdv A outer s H vs Q E hr h => ⟨t_law_digits K E, PSs.nox ?_, pure_law_digits vs H Q E h⟩)⟩
  exact (pss_cons (ps_set (i := 2) sc_law_digits.nd rfl (Or.inl rfl) (pe_lst pa_nil))
      (pss_cons (ps_if (pt_cmpR op_ge (pv 0) (pe_op op_pow pe_int pe_int) (nomark _)) (pss_cons (ps_for PassesOwn.never rfl (pi_range1 rfl T.z_range (pa_cons (pv 1) pa_nil)) (pg_name (i := 3) sc_law_digits.nd rfl (Or.inl rfl))
      (pss_cons (ps_expr (pe_bm PySem.F.plainAttrs_list PySem.F.slot_list_append PySem.F.type_list_append mt_append (pv 2) (pa_cons (pe_op op_mod (pe_callTy cr_intI rfl T.z_int (by decide +kernel) (pa_cons (pv 0) pa_nil)) pe_int) pa_nil)))
      (pss_one (ps_set (i := 0) sc_law_digits.nd rfl (Or.inl rfl) (pe_op op_fdiv (pv 0) pe_int)))))
      (pss_one (ps_ret (pv 2)))) pss_nil)
      (pss_cons (ps_set (i := 4) sc_law_digits.nd rfl (Or.inl rfl) (pe_op op_mod (pe_callTy cr_intI rfl T.z_int (by decide +kernel) (pa_cons (pe_op op_add (pe_op op_mul (pv 0) pe_int) pe_int) pa_nil)) pe_int))
      (pss_cons (ps_for PassesOwn.never rfl (pi_range1 rfl T.z_range (pa_cons (pv 1) pa_nil)) (pg_name (i := 3) sc_law_digits.nd rfl (Or.inl rfl))
      (pss_cons (ps_set (i := 4) sc_law_digits.nd rfl (Or.inl rfl) (pe_op op_mod (pe_callTy cr_intI rfl T.z_int (by decide +kernel) (pa_cons (pe_op op_add (pe_op op_add (pe_op op_mul (pv 4) pe_int) (pe_op op_mul pe_int (pv 3))) pe_int) pa_nil)) pe_int))
      (pss_one (ps_expr (pe_bm PySem.F.plainAttrs_list PySem.F.slot_list_append PySem.F.type_list_append mt_append (pv 2) (pa_cons (pe_op op_mod (pe_callTy cr_intI rfl T.z_int (by decide +kernel) (pa_cons (pe_op op_fdiv (pv 4) pe_int) pa_nil)) pe_int) pa_nil))))))
      (pss_one (ps_ret (pv 2)))))))
theorem ok_law_cell {P : Program} {w : World} {K : PySem.W.Frag} {mg : Str → Option Value} {base : Heap} (T : Txt K mg)  : O_law_cell P w K mg base := by
  obtain ⟨fd, X⟩ := T.d_law_cell
  refine ⟨fd, X, X.ok sc_law_cell (fun vs H Q E h => len_law_cell h) (fun cdv A outer s H vs Q E hr h => ⟨t_law_cell K E, PSs.nox ?_, pure_law_cell vs H Q E h⟩)⟩
  exact (pss_cons (ps_if (pt_cmpR op_lt (pv 1) (pe_callB cr_lenQ rfl T.z_len (by decide +kernel) (pa_cons (pv 0) pa_nil)) (nomark _)) (pss_one (ps_ret (pe_ix ix_list (pv 0) (pv 1) (fun _ _ => rfl)))) pss_nil)
      (pss_cons (ps_set (i := 2) sc_law_cell.nd rfl (Or.inl rfl) (pe_op op_add (pe_op op_mul pe_int (pv 1)) pe_int))
      (pss_cons (ps_for PassesOwn.never rfl (pi_list (pv 0)) (pg_name (i := 3) sc_law_cell.nd rfl (Or.inl rfl))
      (pss_one (ps_set (i := 2) sc_law_cell.nd rfl (Or.inl rfl) (pe_op op_mod (pe_callTy cr_intI rfl T.z_int (by decide +kernel) (pa_cons (pe_op op_add (pe_op op_mul (pv 2) pe_int) (pv 3)) pa_nil)) pe_int))))
      (pss_one (ps_ret (pv 2))))))
theorem ok_law_put {P : Program} {w : World} {K : PySem.W.Frag} {mg : Str → Option Value} {base : Heap} (T : Txt K mg)  : O_law_put P w K mg base := by
  obtain ⟨fd, X⟩ := T.d_law_put
  refine ⟨fd, X, X.ok sc_law_put (fun vs H Q E h => len_law_put h) (fun cdv A outer s H vs Q E hr h => ⟨t_law_put K E, PSs.nox ?_, pure_law_put vs H Q E h⟩)⟩
  exact (pss_cons (ps_set (i := 4) sc_law_put.nd rfl (Or.inl rfl) (pe_tup (pa_cons (pe_lc (own := [("k", 5)]) (g := (gName 5)) (tt := (tTest (tOp (rIn K false) (tVar 5) (tVar 2)))) rfl sc_law_put.nd (pi_range1 rfl T.z_range (pa_cons (pe_callB cr_lenQ rfl T.z_len (by decide +kernel) (pa_cons (pv 0) pa_nil)) pa_nil)) (blkOk_by (N := R_law_put) (sc := defScope s_law_put) (by decide +kernel)) (fun _ _ _ _ _ => (pg_name (i := 5) sc_law_put.nd rfl (Or.inl rfl))) (fun _ _ _ _ _ => (pts_one (pt_cmpR op_in_seq (pv 5) (pv 2) (by rfl)))) (fun _ _ _ _ _ => (pv 5))) (pa_cons (pe_lc (own := [("k", 5)]) (g := (gName 5)) (tt := (tTest (tOp (rIn K false) (tVar 5) (tVar 3)))) rfl sc_law_put.nd (pi_range1 rfl T.z_range (pa_cons (pe_callB cr_lenQ rfl T.z_len (by decide +kernel) (pa_cons (pv 0) pa_nil)) pa_nil)) (blkOk_by (N := R_law_put) (sc := defScope s_law_put) (by decide +kernel)) (fun _ _ _ _ _ => (pg_name (i := 5) sc_law_put.nd rfl (Or.inl rfl))) (fun _ _ _ _ _ => (pts_one (pt_cmpR op_in_seq (pv 5) (pv 3) (by rfl)))) (fun _ _ _ _ _ => (pv 5))) pa_nil))))
      (pss_cons (ps_for PassesOwn.never rfl (pi_range1 rfl T.z_range (pa_cons (pe_callB cr_lenQ rfl T.z_len (by decide +kernel) (pa_cons (pv 0) pa_nil)) pa_nil)) (pg_name (i := 5) sc_law_put.nd rfl (Or.inl rfl))
      (pss_one (ps_if (pt_cmpR (op_eqD hr.units) (pe_ix ix_list (pv 0) (pv 5) (fun _ _ => rfl)) (pv 4) (nomark _)) (pss_one (ps_ret (pv 5))) pss_nil)))
      (pss_cons (ps_expr (pe_bm PySem.F.plainAttrs_list PySem.F.slot_list_append PySem.F.type_list_append mt_append (pv 0) (pa_cons (pv 4) pa_nil)))
      (pss_cons (ps_expr (pe_bm PySem.F.plainAttrs_list PySem.F.slot_list_append PySem.F.type_list_append mt_append (pv 1) (pa_cons (pe_callB (cr_max rfl) rfl T.z_max (by decide +kernel) (pa_cons (pe_op op_cat (pe_lst (pa_cons pe_int pa_nil)) (pe_lc (own := [("k", 5)]) (g := (gName 5)) (tt := tYes) rfl sc_law_put.nd (pi_list (pe_op op_cat (pe_ix ix_tup (pv 4) pe_int (fun _ _ => rfl)) (pe_ix ix_tup (pv 4) pe_int (fun _ _ => rfl)))) (blkOk_by (N := R_law_put) (sc := defScope s_law_put) (by decide +kernel)) (fun _ _ _ _ _ => (pg_name (i := 5) sc_law_put.nd rfl (Or.inl rfl))) (fun _ _ _ _ _ => pts_nil) (fun _ _ _ _ _ => (pe_op op_add pe_int (pe_ix ix_list (pv 1) (pv 5) (fun _ _ => rfl)))))) pa_nil)) pa_nil)))
      (pss_one (ps_ret (pe_op op_sub (pe_callB cr_lenQ rfl T.z_len (by decide +kernel) (pa_cons (pv 0) pa_nil)) pe_int)))))))
theorem ok_law_family {P : Program} {w : World} {K : PySem.W.Frag} {mg : Str → Option Value} {base : Heap} (T : Txt K mg) (D_law_drawn : O_law_drawn P w K mg base) (D_law_digits : O_law_digits P w K mg base) (D_law_cell : O_law_cell P w K mg base) (D_law_put : O_law_put P w K mg base) : O_law_family P w K mg base := by
  obtain ⟨fd_law_drawn, X_law_drawn, G_law_drawn⟩ := D_law_drawn.ex
  have K_law_drawn := X_law_drawn.kp
  have B_law_drawn := X_law_drawn.bindsN (ps := ["model", "heights", "digits", "most"]) fun _ _ _ _ _ _ us hl => match us, hl with | [_, _, _, _], _ => rfl
  have V_law_drawn : Vals [] [] := .nil
  obtain ⟨fd_law_digits, X_law_digits, G_law_digits⟩ := D_law_digits.ex
  have K_law_digits := X_law_digits.kp
  have B_law_digits := X_law_digits.bindsN (ps := ["cell", "count"]) fun _ _ _ _ _ _ us hl => match us, hl with | [_, _], _ => rfl
  have V_law_digits : Vals [] [] := .nil
  obtain ⟨fd_law_cell, X_law_cell, G_law_cell⟩ := D_law_cell.ex
  have K_law_cell := X_law_cell.kp
  have B_law_cell := X_law_cell.bindsN (ps := ["script", "k"]) fun _ _ _ _ _ _ us hl => match us, hl with | [_, _], _ => rfl
  have V_law_cell : Vals [] [] := .nil
  obtain ⟨fd_law_put, X_law_put, G_law_put⟩ := D_law_put.ex
  have K_law_put := X_law_put.kp
  have B_law_put := X_law_put.bindsN (ps := ["model", "heights", "lefts", "rights"]) fun _ _ _ _ _ _ us hl => match us, hl with | [_, _, _, _], _ => rfl
  have V_law_put : Vals [] [] := .nil
  obtain ⟨fd, X⟩ := T.d_law_family
  refine ⟨fd, X, X.ok sc_law_family (fun vs H Q E h => len_law_family h) (fun cdv A outer s H vs Q E hr h => ⟨t_law_family K E, PSs.nox ?_, pure_law_family vs H Q E h⟩)⟩
  exact (pss_cons (ps_set (i := 4) sc_law_family.nd rfl (Or.inl rfl) (pe_lst (pa_cons (pe_tup (pa_cons (pe_lst pa_nil) (pa_cons (pe_lst pa_nil) pa_nil))) pa_nil)))
      (pss_cons (ps_set (i := 5) sc_law_family.nd rfl (Or.inl rfl) (pe_lst (pa_cons pe_int pa_nil)))
      (pss_cons (ps_for PassesOwn.never rfl (pi_range1 rfl T.z_range (pa_cons (pv 2) pa_nil)) (pg_name (i := 6) sc_law_family.nd rfl (Or.inl rfl))
      (pss_cons (ps_set (i := 7) sc_law_family.nd rfl (Or.inl rfl) (pe_call G_law_drawn (hr.mono (by decide)) rfl T.g__law_drawn K_law_drawn B_law_drawn V_law_drawn pass0 (pa_cons (pv 4) (pa_cons (pv 5) (pa_cons (pe_call G_law_digits (hr.mono (by decide)) rfl T.g__law_digits K_law_digits B_law_digits V_law_digits pass0 (pa_cons (pe_call G_law_cell (hr.mono (by decide)) rfl T.g__law_cell K_law_cell B_law_cell V_law_cell pass0 (pa_cons (pv 0) (pa_cons (pe_op op_add (pv 1) (pv 6)) pa_nil))) (pa_cons pe_int pa_nil))) (pa_cons (pv 3) pa_nil))))))
      (pss_one (ps_expr (pe_call G_law_put (hr.mono (by decide)) rfl T.g__law_put K_law_put B_law_put V_law_put pass0 (pa_cons (pv 4) (pa_cons (pv 5) (pa_cons (pe_ix ix_tup (pv 7) pe_int (fun _ _ => rfl)) (pa_cons (pe_ix ix_tup (pv 7) pe_int (fun _ _ => rfl)) pa_nil)))))))))
      (pss_one (ps_ret (pe_tup (pa_cons (pv 4) (pa_cons (pv 5) pa_nil))))))))
theorem ok_law_count {P : Program} {w : World} {K : PySem.W.Frag} {mg : Str → Option Value} {base : Heap} (T : Txt K mg)  : O_law_count P w K mg base := by
  obtain ⟨fd, X⟩ := T.d_law_count
  refine ⟨fd, X, X.ok sc_law_count (fun vs H Q E h => len_law_count h) (fun cdv A outer s H vs Q E hr h => ⟨t_law_count K E, PSs.nox ?_, pure_law_count vs H Q E h⟩)⟩
  exact (pss_cons (ps_set (i := 1) sc_law_count.nd rfl (Or.inl rfl) (pe_op op_mod (pe_callTy cr_intI rfl T.z_int (by decide +kernel) (pa_cons (pv 0) pa_nil)) pe_int))
      (pss_cons (ps_if (pt_cmpR op_eq (pe_op op_mod (pe_callTy cr_intI rfl T.z_int (by decide +kernel) (pa_cons (pv 1) pa_nil)) pe_int) pe_int (nomark _)) (pss_one (ps_ret (pe_op op_add pe_int (pe_op op_fdiv (pv 1) pe_int)))) pss_nil)
      (pss_one (ps_ret (pe_op op_add pe_int (pe_op op_mod (pe_callTy cr_intI rfl T.z_int (by decide +kernel) (pa_cons (pv 1) pa_nil)) pe_int))))))
theorem ok_Yard_p_kept {P : Program} {w : World} {K : PySem.W.Frag} {mg : Str → Option Value} {base : Heap} (T : Txt K mg)  : O_Yard_p_kept P w K mg base := by
  obtain ⟨fd, X⟩ := T.d_Yard_p_kept
  refine ⟨fd, X, X.ok sc_Yard_p_kept (fun vs H Q E h => len_Yard_p_kept h) (fun cdv A outer s H vs Q E hr h => ⟨t_Yard_p_kept P w K E, PSs.nox ?_, pure_Yard_p_kept T.FYard vs H Q E h⟩)⟩
  exact (pss_cons (ps_set (i := 3) sc_Yard_p_kept.nd rfl (Or.inl rfl) (pe_tup (pa_cons (pv 1) (pa_cons (pv 2) pa_nil))))
      (Evl.pss_cut (ps_if (pt_cmp (pc_nnot (hu9 hr) (pv 3) (pe_fld (pv 0) rfl))) (pss_cons (ps_nput (hu9 hr) (pe_fld (pv 0) rfl) (pv 3) (pe_callB cr_lenQ rfl T.z_len (by decide +kernel) (pa_cons (pe_fld (pv 0) rfl) pa_nil)) rfl)
      (pss_cons (ps_expr (pe_bm PySem.F.plainAttrs_list PySem.F.slot_list_append PySem.F.type_list_append mt_append (pe_fld (pv 0) rfl) (pa_cons (pe_op op_add pe_int (pe_callB (cr_max rfl) rfl T.z_max (by decide +kernel) (pa_cons (pe_lc (own := [("option", 4)]) (g := (gName 4)) (tt := tYes) rfl sc_Yard_p_kept.nd (pi_tup (pe_op op_catA (pv 1) (pv 2))) (blkOk_by (N := R_Yard_p_kept) (sc := defScope s_Yard_p_kept) (by decide +kernel)) (fun _ _ _ _ _ => (pg_name (i := 4) sc_Yard_p_kept.nd rfl (Or.inl rfl))) (fun _ _ _ _ _ => pts_nil) (fun _ _ _ _ _ => (pe_ix ix_list (pe_fld (pv 0) rfl) (pv 4) (fun _ _ => rfl)))) pa_nil))) pa_nil)))
      (pss_cons (ps_expr (pe_bm PySem.F.plainAttrs_list PySem.F.slot_list_append PySem.F.type_list_append mt_append (pe_fld (pv 0) rfl) (pa_cons (pv 1) pa_nil)))
      (pss_one (ps_expr (pe_bm PySem.F.plainAttrs_list PySem.F.slot_list_append PySem.F.type_list_append mt_append (pe_fld (pv 0) rfl) (pa_cons (pv 2) pa_nil))))))) pss_nil)
      (pss_one (ps_ret (pe_nget (hu9 hr) (pe_fld (pv 0) rfl) (pv 3) (fun _ _ => rfl))))))
theorem ok_Yard_m_game {P : Program} {w : World} {K : PySem.W.Frag} {mg : Str → Option Value} {base : Heap} (T : Txt K mg) (D_Yard_m_check : O_Yard_m_check P w K mg base) (D_Yard_p_kept : O_Yard_p_kept P w K mg base) : O_Yard_m_game P w K mg base := by
  obtain ⟨fd_Yard_m_check, X_Yard_m_check, G_Yard_m_check⟩ := D_Yard_m_check.ex
  have K_Yard_m_check := X_Yard_m_check.kp
  have B_Yard_m_check := X_Yard_m_check.bindsN (ps := ["self", "game"]) fun _ _ _ _ _ _ us hl => match us, hl with | [_, _], _ => rfl
  have V_Yard_m_check : Vals [] [] := .nil
  obtain ⟨fd_Yard_p_kept, X_Yard_p_kept, G_Yard_p_kept⟩ := D_Yard_p_kept.ex
  have K_Yard_p_kept := X_Yard_p_kept.kp
  have B_Yard_p_kept := X_Yard_p_kept.bindsN (ps := ["self", "lefts", "rights"]) fun _ _ _ _ _ _ us hl => match us, hl with | [_, _, _], _ => rfl
  have V_Yard_p_kept : Vals [] [] := .nil
  obtain ⟨fd, X⟩ := T.d_Yard_m_game
  refine ⟨fd, X, X.ok sc_Yard_m_game (fun vs H Q E h => len_Yard_m_game h) (fun cdv A outer s H vs Q E hr h => ⟨t_Yard_m_game P w K E, PSs.nox ?_, pure_Yard_m_game vs H Q E h⟩)⟩
  exact (pss_cons (ps_for PassesOwn.never rfl (pi_list (pv 1)) (pg_name (i := 3) sc_Yard_m_game.nd rfl (Or.inl rfl))
      (pss_one (ps_expr (pe_meth (pv 0) T.cl_Yard T.mt_Yard_check G_Yard_m_check (hr.mono (by decide)) B_Yard_m_check .nil pass0 (pa_cons (pv 3) pa_nil)))))
      (pss_cons (ps_for PassesOwn.never rfl (pi_list (pv 2)) (pg_name (i := 3) sc_Yard_m_game.nd rfl (Or.inl rfl))
      (pss_one (ps_expr (pe_meth (pv 0) T.cl_Yard T.mt_Yard_check G_Yard_m_check (hr.mono (by decide)) B_Yard_m_check .nil pass0 (pa_cons (pv 3) pa_nil)))))
      (pss_one (ps_ret (pe_meth (pv 0) T.cl_Yard T.mt_Yard__kept G_Yard_p_kept (hr.mono (by decide)) B_Yard_p_kept .nil pass0 (pa_cons (pe_callTy cr_tupL rfl T.z_tuple (by decide +kernel) (pa_cons (pe_callB (cr_sortX rfl) rfl T.z_sorted (by decide +kernel) (pa_cons (pe_callTy (cr_setL rfl) rfl T.z_set (by decide +kernel) (pa_cons (pv 1) pa_nil)) pa_nil)) pa_nil)) (pa_cons (pe_callTy cr_tupL rfl T.z_tuple (by decide +kernel) (pa_cons (pe_callB (cr_sortX rfl) rfl T.z_sorted (by decide +kernel) (pa_cons (pe_callTy (cr_setL rfl) rfl T.z_set (by decide +kernel) (pa_cons (pv 2) pa_nil)) pa_nil)) pa_nil)) pa_nil)))))))
theorem ok_law_built {P : Program} {w : World} {K : PySem.W.Frag} {mg : Str → Option Value} {base : Heap} (T : Txt K mg) (D_Yard_m_game : O_Yard_m_game P w K mg base) : O_law_built P w K mg base := by
  obtain ⟨fd_Yard_m_game, X_Yard_m_game, G_Yard_m_game⟩ := D_Yard_m_game.ex
  have K_Yard_m_game := X_Yard_m_game.kp
  have B_Yard_m_game := X_Yard_m_game.bindsN (ps := ["self", "lefts", "rights"]) fun _ _ _ _ _ _ us hl => match us, hl with | [_, _, _], _ => rfl
  have V_Yard_m_game : Vals [] [] := .nil
  obtain ⟨fd, X⟩ := T.d_law_built
  refine ⟨fd, X, X.ok sc_law_built (fun vs H Q E h => len_law_built h) (fun cdv A outer s H vs Q E hr h => ⟨t_law_built P w K E, PSs.nox ?_, pure_law_built vs H Q E h⟩)⟩
  exact (pss_cons (ps_set (i := 2) sc_law_built.nd rfl (Or.inr rfl) (pe_lst (pa_cons pe_int pa_nil)))
      (pss_cons (ps_for PassesOwn.never rfl (pi_list (pe_slice sl_list (pv 1) (po_some pe_int) po_none)) (pg_name (i := 3) sc_law_built.nd rfl (Or.inl rfl))
      (pss_one (ps_expr (pe_bm PySem.F.plainAttrs_list PySem.F.slot_list_append PySem.F.type_list_append mt_append (pv 2) (pa_cons (pe_meth (pv 0) T.cl_Yard T.mt_Yard_game G_Yard_m_game (hr.mono (by decide)) B_Yard_m_game .nil pass0 (pa_cons (pe_lc (own := [("k", 4)]) (g := (gName 4)) (tt := tYes) rfl sc_law_built.nd (pi_list (pe_ix ix_tup (pv 3) pe_int (fun _ _ => rfl))) (blkOk_by (N := R_law_built) (sc := defScope s_law_built) (by decide +kernel)) (fun _ _ _ _ _ => (pg_name (i := 4) sc_law_built.nd rfl (Or.inl rfl))) (fun _ _ _ _ _ => pts_nil) (fun _ _ _ _ _ => (pe_ix ix_list (pv 2) (pv 4) (fun _ _ => rfl)))) (pa_cons (pe_lc (own := [("k", 4)]) (g := (gName 4)) (tt := tYes) rfl sc_law_built.nd (pi_list (pe_ix ix_tup (pv 3) pe_int (fun _ _ => rfl))) (blkOk_by (N := R_law_built) (sc := defScope s_law_built) (by decide +kernel)) (fun _ _ _ _ _ => (pg_name (i := 4) sc_law_built.nd rfl (Or.inl rfl))) (fun _ _ _ _ _ => pts_nil) (fun _ _ _ _ _ => (pe_ix ix_list (pv 2) (pv 4) (fun _ _ => rfl)))) pa_nil))) pa_nil)))))
      (pss_one (ps_ret (pv 2)))))
theorem ok_law_wins {P : Program} {w : World} {K : PySem.W.Frag} {mg : Str → Option Value} {base : Heap} (T : Txt K mg)  : O_law_wins P w K mg base := by
  obtain ⟨fd, X⟩ := T.d_law_wins
  have all : ∀ n : Nat, FnOk P w K mg base CX0 (n + 1) (ad_law_wins K) fd ["model", "known", "at", "side"] (sp_law_wins K n) := by
    intro n
    induction n with
    | zero => exact X.ok sc_law_wins (fun vs H Q E h => len_law_wins h) (fun cdv A outer s H vs Q E hr h => absurd h no_law_wins)
    | succ n G_law_wins =>
      have K_law_wins := X.kp
      have V_law_wins : Vals [] [] := .nil
      have B_law_wins := X.bindsN (ps := ["model", "known", "at", "side"]) fun _ _ _ _ _ _ us hl => match us, hl with | [_, _, _, _], _ => rfl
      refine X.ok (k := (n + 1) + 0) sc_law_wins (fun vs H Q E h => len_law_wins h) (fun cdv A outer s H vs Q E hr h => ⟨t_law_wins K n E, PSs.nox ?_, pure_law_wins n vs H Q E h⟩)
      exact (pss_cons (ps_set (i := 4) sc_law_wins.nd rfl (Or.inl rfl) (pe_tup (pa_cons (pv 2) (pa_cons (pv 3) pa_nil))))
      (Evl.pss_cut (ps_if (pt_cmp (pc_dnotin (hu_of hr) (pv 4) (pv 1))) (pss_one (ps_dput (hu_of hr) (pv 1) (pv 4) (pe_cmpR op_gt (pe_callB cr_lenQ rfl T.z_len (by decide +kernel) (pa_cons (pe_lc (own := [("k", 5)]) (g := (gName 5)) (tt := (tNot (tB (tCall (sp_law_wins K n) [] E0 (tCons (tVar 0) (tCons (tVar 1) (tCons (tVar 5) (tCons (tOp rSubI (tC (.int 1)) (tVar 3)) tNil)))))))) rfl sc_law_wins.nd (pi_list (pe_ix ix_tup (pe_ix ix_list (pv 0) (pv 2) (fun _ _ => rfl)) (pv 3) (fun _ _ => rfl))) (blkOk_by (N := R_law_wins) (sc := defScope s_law_wins) (by decide +kernel)) (fun _ _ _ _ _ => (pg_name (i := 5) sc_law_wins.nd rfl (Or.inl rfl))) (fun _ _ _ _ _ => (pts_one (pt_not (pt_val (pe_call G_law_wins (hr.mono (by omega)) rfl T.g__law_wins K_law_wins B_law_wins V_law_wins pass0 (pa_cons (pv 0) (pa_cons (pv 1) (pa_cons (pv 5) (pa_cons (pe_op op_sub pe_int (pv 3)) pa_nil))))))))) (fun _ _ _ _ _ => (pv 5))) pa_nil)) pe_int (nomark _)) rfl)) pss_nil)
      (pss_one (ps_ret (pe_dget (hu_of hr) (pv 1) (pv 4) (fun _ _ => rfl))))))
  exact ⟨fd, X, all 25⟩
theorem ok_Wins_m_can_win {P : Program} {w : World} {K : PySem.W.Frag} {mg : Str → Option Value} {base : Heap} (T : Txt K mg)  : O_Wins_m_can_win P w K mg base := by
  obtain ⟨fd, X⟩ := T.d_Wins_m_can_win
  refine ⟨fd, X, X.ok sc_Wins_m_can_win (fun vs H Q E h => len_Wins_m_can_win h) (fun cdv A outer s H vs Q E hr h => ⟨t_Wins_m_can_win K E, PSs.nox ?_, pure_Wins_m_can_win T.FWins vs H Q E h⟩)⟩
  exact (pss_cons (ps_if (pt_cmpR op_eq (pv 2) pe_str (nomark _)) (pss_one (ps_ret (pe_ix ix_list (pe_fld (pv 0) rfl) (pv 1) (fun _ _ => rfl)))) pss_nil)
      (pss_one (ps_ret (pe_ix ix_list (pe_fld (pv 0) rfl) (pv 1) (fun _ _ => rfl)))))
theorem ok_Order_m_can_win {P : Program} {w : World} {K : PySem.W.Frag} {mg : Str → Option Value} {base : Heap} (T : Txt K mg) (D_Yard_m_check : O_Yard_m_check P w K mg base) (D_Wins_m_catch_up : O_Wins_m_catch_up P w K mg base) (D_Wins_m_can_win : O_Wins_m_can_win P w K mg base) : O_Order_m_can_win P w K mg base := by
  obtain ⟨fd_Yard_m_check, X_Yard_m_check, G_Yard_m_check⟩ := D_Yard_m_check.ex
  have K_Yard_m_check := X_Yard_m_check.kp
  have B_Yard_m_check := X_Yard_m_check.bindsN (ps := ["self", "game"]) fun _ _ _ _ _ _ us hl => match us, hl with | [_, _], _ => rfl
  have V_Yard_m_check : Vals [] [] := .nil
  obtain ⟨fd_Wins_m_catch_up, X_Wins_m_catch_up, G_Wins_m_catch_up⟩ := D_Wins_m_catch_up.ex
  have K_Wins_m_catch_up := X_Wins_m_catch_up.kp
  have B_Wins_m_catch_up := X_Wins_m_catch_up.bindsN (ps := ["self"]) fun _ _ _ _ _ _ us hl => match us, hl with | [_], _ => rfl
  have V_Wins_m_catch_up : Vals [] [] := .nil
  obtain ⟨fd_Wins_m_can_win, X_Wins_m_can_win, G_Wins_m_can_win⟩ := D_Wins_m_can_win.ex
  have K_Wins_m_can_win := X_Wins_m_can_win.kp
  have B_Wins_m_can_win := X_Wins_m_can_win.bindsN (ps := ["self", "game", "side"]) fun _ _ _ _ _ _ us hl => match us, hl with | [_, _, _], _ => rfl
  have V_Wins_m_can_win : Vals [] [] := .nil
  obtain ⟨fd, X⟩ := T.d_Order_m_can_win
  refine ⟨fd, X, X.ok sc_Order_m_can_win (fun vs H Q E h => len_Order_m_can_win h) (fun cdv A outer s H vs Q E hr h => ⟨t_Order_m_can_win P w K E, PSs.nox ?_, pure_Order_m_can_win T.FOrder vs H Q E h⟩)⟩
  exact (pss_cons (ps_expr (pe_meth (pe_fld (pv 0) rfl) T.cl_Yard T.mt_Yard_check G_Yard_m_check (hr.mono (by decide)) B_Yard_m_check .nil pass0 (pa_cons (pv 1) pa_nil)))
      (pss_cons (ps_expr (pe_meth0 (pe_fld (pv 0) rfl) T.cl_Wins T.mt_Wins_catch_up G_Wins_m_catch_up (hr.mono (by decide)) B_Wins_m_catch_up .nil pass0))
      (pss_one (ps_ret (pe_meth (pe_fld (pv 0) rfl) T.cl_Wins T.mt_Wins_can_win G_Wins_m_can_win (hr.mono (by decide)) B_Wins_m_can_win .nil pass0 (pa_cons (pv 1) (pa_cons (pv 2) pa_nil)))))))
theorem ok_Order_m_outcome {P : Program} {w : World} {K : PySem.W.Frag} {mg : Str → Option Value} {base : Heap} (T : Txt K mg) (D_Order_m_can_win : O_Order_m_can_win P w K mg base) : O_Order_m_outcome P w K mg base := by
  obtain ⟨fd_Order_m_can_win, X_Order_m_can_win, G_Order_m_can_win⟩ := D_Order_m_can_win.ex
  have K_Order_m_can_win := X_Order_m_can_win.kp
  have B_Order_m_can_win := X_Order_m_can_win.bindsN (ps := ["self", "game", "side"]) fun _ _ _ _ _ _ us hl => match us, hl with | [_, _, _], _ => rfl
  have V_Order_m_can_win : Vals [] [] := .nil
  obtain ⟨fd, X⟩ := T.d_Order_m_outcome
  refine ⟨fd, X, X.ok sc_Order_m_outcome (fun vs H Q E h => len_Order_m_outcome h) (fun cdv A outer s H vs Q E hr h => ⟨t_Order_m_outcome P w K E, PSs.nox ?_, pure_Order_m_outcome T.FOrder vs H Q E h⟩)⟩
  exact (pss_cons (ps_set (i := 2) sc_Order_m_outcome.nd rfl (Or.inl rfl) (pe_meth (pv 0) T.cl_Order T.mt_Order_can_win G_Order_m_can_win (hr.mono (by decide)) B_Order_m_can_win .nil pass0 (pa_cons (pv 1) (pa_cons pe_str pa_nil))))
      (pss_cons (ps_set (i := 3) sc_Order_m_outcome.nd rfl (Or.inl rfl) (pe_meth (pv 0) T.cl_Order T.mt_Order_can_win G_Order_m_can_win (hr.mono (by decide)) B_Order_m_can_win .nil pass0 (pa_cons (pv 1) (pa_cons pe_str pa_nil))))
      (pss_cons (ps_if (pt_val (pv 2)) (pss_one (ps_ret (pe_ifExp (pt_val (pv 3)) pe_str pe_str))) pss_nil)
      (pss_one (ps_ret (pe_ifExp (pt_val (pv 3)) pe_str pe_str))))))
theorem ok_law_outcome {P : Program} {w : World} {K : PySem.W.Frag} {mg : Str → Option Value} {base : Heap} (T : Txt K mg) (D_law_wins : O_law_wins P w K mg base) (D_Order_m_outcome : O_Order_m_outcome P w K mg base) : O_law_outcome P w K mg base := by
  obtain ⟨fd_law_wins, X_law_wins, G_law_wins⟩ := D_law_wins.ex
  have K_law_wins := X_law_wins.kp
  have B_law_wins := X_law_wins.bindsN (ps := ["model", "known", "at", "side"]) fun _ _ _ _ _ _ us hl => match us, hl with | [_, _, _, _], _ => rfl
  have V_law_wins : Vals [] [] := .nil
  obtain ⟨fd_Order_m_outcome, X_Order_m_outcome, G_Order_m_outcome⟩ := D_Order_m_outcome.ex
  have K_Order_m_outcome := X_Order_m_outcome.kp
  have B_Order_m_outcome := X_Order_m_outcome.bindsN (ps := ["self", "game"]) fun _ _ _ _ _ _ us hl => match us, hl with | [_, _], _ => rfl
  have V_Order_m_outcome : Vals [] [] := .nil
  obtain ⟨fd, X⟩ := T.d_law_outcome
  refine ⟨fd, X, X.ok sc_law_outcome (fun vs H Q E h => len_law_outcome h) (fun cdv A outer s H vs Q E hr h => ⟨t_law_outcome P w K E, PSs.nox ?_, pure_law_outcome vs H Q E h⟩)⟩
  exact (pss_cons (ps_set (i := 5) sc_law_outcome.nd rfl (Or.inl rfl) (pe_call G_law_wins (hr.mono (by decide)) rfl T.g__law_wins K_law_wins B_law_wins V_law_wins pass0 (pa_cons (pv 1) (pa_cons (pv 3) (pa_cons (pv 4) (pa_cons pe_int pa_nil))))))
      (pss_cons (ps_set (i := 6) sc_law_outcome.nd rfl (Or.inl rfl) (pe_call G_law_wins (hr.mono (by decide)) rfl T.g__law_wins K_law_wins B_law_wins V_law_wins pass0 (pa_cons (pv 1) (pa_cons (pv 3) (pa_cons (pv 4) (pa_cons pe_int pa_nil))))))
      (pss_cons (ps_set (i := 7) sc_law_outcome.nd rfl (Or.inl rfl) pe_str)
      (Evl.pss_cut (ps_if (PW.pt (pw_and (pt_val (pv 5)) (pw_and1 (pt_val (pv 6))))) (pss_one (ps_set (i := 7) sc_law_outcome.nd rfl (Or.inl rfl) pe_str)) (pss_one (ps_if (pt_val (pv 5)) (pss_one (ps_set (i := 7) sc_law_outcome.nd rfl (Or.inl rfl) pe_str)) (pss_one (ps_if (pt_val (pv 6)) (pss_one (ps_set (i := 7) sc_law_outcome.nd rfl (Or.inl rfl) pe_str)) pss_nil)))))
      (pss_cons (ps_set (i := 8) sc_law_outcome.nd rfl (Or.inl rfl) (pe_meth (pv 0) T.cl_Order T.mt_Order_outcome G_Order_m_outcome (hr.mono (by decide)) B_Order_m_outcome .nil pass0 (pa_cons (pe_ix ix_list (pv 2) (pv 4) (fun _ _ => rfl)) pa_nil)))
      (pss_one (ps_ret (pe_and (pe_callB call_isi rfl T.z_isinstance (by decide +kernel) (pa_cons (pv 8) (pa_cons (pe_bltn rfl T.z_str (by decide +kernel) rfl) pa_nil))) (pe_one (pe_cmpR op_eq (pv 8) (pv 7) (nomark _)))))))))))
theorem ok_other_side {P : Program} {w : World} {K : PySem.W.Frag} {mg : Str → Option Value} {base : Heap} (T : Txt K mg)  : O_other_side P w K mg base := by
  obtain ⟨fd, X⟩ := T.d_other_side
  refine ⟨fd, X, X.ok sc_other_side (fun vs H Q E h => len_other_side h) (fun cdv A outer s H vs Q E hr h => ⟨t_other_side K E, PSs.nox ?_, pure_other_side vs H Q E h⟩)⟩
  exact (pss_one (ps_ret (pe_ifExp (pt_cmpR op_eq (pv 0) pe_str (nomark _)) pe_str pe_str)))
theorem ok_Yard_m_options {P : Program} {w : World} {K : PySem.W.Frag} {mg : Str → Option Value} {base : Heap} (T : Txt K mg) (D_Yard_m_lefts : O_Yard_m_lefts P w K mg base) (D_Yard_m_rights : O_Yard_m_rights P w K mg base) : O_Yard_m_options P w K mg base := by
  obtain ⟨fd_Yard_m_lefts, X_Yard_m_lefts, G_Yard_m_lefts⟩ := D_Yard_m_lefts.ex
  have K_Yard_m_lefts := X_Yard_m_lefts.kp
  have B_Yard_m_lefts := X_Yard_m_lefts.bindsN (ps := ["self", "game"]) fun _ _ _ _ _ _ us hl => match us, hl with | [_, _], _ => rfl
  have V_Yard_m_lefts : Vals [] [] := .nil
  obtain ⟨fd_Yard_m_rights, X_Yard_m_rights, G_Yard_m_rights⟩ := D_Yard_m_rights.ex
  have K_Yard_m_rights := X_Yard_m_rights.kp
  have B_Yard_m_rights := X_Yard_m_rights.bindsN (ps := ["self", "game"]) fun _ _ _ _ _ _ us hl => match us, hl with | [_, _], _ => rfl
  have V_Yard_m_rights : Vals [] [] := .nil
  obtain ⟨fd, X⟩ := T.d_Yard_m_options
  refine ⟨fd, X, X.ok sc_Yard_m_options (fun vs H Q E h => len_Yard_m_options h) (fun cdv A outer s H vs Q E hr h => ⟨t_Yard_m_options P w K E, PSs.nox ?_, pure_Yard_m_options vs H Q E h⟩)⟩
  exact (pss_cons (ps_if (pt_cmpR op_eq (pv 2) pe_str (nomark _)) (pss_one (ps_ret (pe_meth (pv 0) T.cl_Yard T.mt_Yard_lefts G_Yard_m_lefts (hr.mono (by decide)) B_Yard_m_lefts .nil pass0 (pa_cons (pv 1) pa_nil)))) pss_nil)
      (pss_one (ps_ret (pe_meth (pv 0) T.cl_Yard T.mt_Yard_rights G_Yard_m_rights (hr.mono (by decide)) B_Yard_m_rights .nil pass0 (pa_cons (pv 1) pa_nil)))))
theorem ok_Order_m_winning {P : Program} {w : World} {K : PySem.W.Frag} {mg : Str → Option Value} {base : Heap} (T : Txt K mg) (D_other_side : O_other_side P w K mg base) (D_Yard_m_options : O_Yard_m_options P w K mg base) (D_Order_m_can_win : O_Order_m_can_win P w K mg base) : O_Order_m_winning P w K mg base := by
  obtain ⟨fd_other_side, X_other_side, G_other_side⟩ := D_other_side.ex
  have K_other_side := X_other_side.kp
  have B_other_side := X_other_side.bindsN (ps := ["side"]) fun _ _ _ _ _ _ us hl => match us, hl with | [_], _ => rfl
  have V_other_side : Vals [] [] := .nil
  obtain ⟨fd_Yard_m_options, X_Yard_m_options, G_Yard_m_options⟩ := D_Yard_m_options.ex
  have K_Yard_m_options := X_Yard_m_options.kp
  have B_Yard_m_options := X_Yard_m_options.bindsN (ps := ["self", "game", "side"]) fun _ _ _ _ _ _ us hl => match us, hl with | [_, _, _], _ => rfl
  have V_Yard_m_options : Vals [] [] := .nil
  obtain ⟨fd_Order_m_can_win, X_Order_m_can_win, G_Order_m_can_win⟩ := D_Order_m_can_win.ex
  have K_Order_m_can_win := X_Order_m_can_win.kp
  have B_Order_m_can_win := X_Order_m_can_win.bindsN (ps := ["self", "game", "side"]) fun _ _ _ _ _ _ us hl => match us, hl with | [_, _, _], _ => rfl
  have V_Order_m_can_win : Vals [] [] := .nil
  obtain ⟨fd, X⟩ := T.d_Order_m_winning
  refine ⟨fd, X, X.ok sc_Order_m_winning (fun vs H Q E h => len_Order_m_winning h) (fun cdv A outer s H vs Q E hr h => ⟨t_Order_m_winning P w K E, PSs.nox ?_, pure_Order_m_winning T.FOrder vs H Q E h⟩)⟩
  exact (pss_cons (ps_set (i := 3) sc_Order_m_winning.nd rfl (Or.inr rfl) (pe_call G_other_side (hr.mono (by decide)) rfl T.g_other_side K_other_side B_other_side V_other_side pass0 (pa_cons (pv 2) pa_nil)))
      (pss_one (ps_ret (pe_lc (own := [("option", 4)]) (g := (gName 4)) (tt := (tNot (tB (tMeth (He.ga K "Order") "can_win" (sp_Order_m_can_win P w K) [] E0 (tVar 0) (tCons (tVar 4) (tCons (tVar 3) tNil)))))) rfl sc_Order_m_winning.nd (pi_list (pe_meth (pe_fld (pv 0) rfl) T.cl_Yard T.mt_Yard_options G_Yard_m_options (hr.mono (by decide)) B_Yard_m_options .nil pass0 (pa_cons (pv 1) (pa_cons (pv 2) pa_nil)))) (blkOk_by (N := R_Order_m_winning) (sc := defScope s_Order_m_winning) (by decide +kernel)) (fun _ _ _ _ _ => (pg_name (i := 4) sc_Order_m_winning.nd rfl (Or.inl rfl))) (fun _ _ _ _ _ => (pts_one (pt_not (pt_val (pe_meth (pv 0) T.cl_Order T.mt_Order_can_win G_Order_m_can_win (hr.mono (by decide)) B_Order_m_can_win .nil pass0 (pa_cons (pv 4) (pa_cons (pv 3) pa_nil))))))) (fun _ _ _ _ _ => (pv 4))))))
theorem ok_law_is_integer {P : Program} {w : World} {K : PySem.W.Frag} {mg : Str → Option Value} {base : Heap} (T : Txt K mg)  : O_law_is_integer P w K mg base := by
  obtain ⟨fd, X⟩ := T.d_law_is_integer
  refine ⟨fd, X, X.ok sc_law_is_integer (fun vs H Q E h => len_law_is_integer h) (fun cdv A outer s H vs Q E hr h => ⟨t_law_is_integer K E, PSs.nox ?_, pure_law_is_integer vs H Q E h⟩)⟩
  exact (pss_one (ps_ret (pe_and (pe_callB call_isi rfl T.z_isinstance (by decide +kernel) (pa_cons (pv 0) (pa_cons (pe_bltn rfl T.z_int (by decide +kernel) rfl) pa_nil))) (pe_one (pe_not (pe_callB call_isi rfl T.z_isinstance (by decide +kernel) (pa_cons (pv 0) (pa_cons (pe_bltn rfl T.z_bool (by decide +kernel) rfl) pa_nil))))))))
theorem ok_law_all_integers {P : Program} {w : World} {K : PySem.W.Frag} {mg : Str → Option Value} {base : Heap} (T : Txt K mg) (D_law_is_integer : O_law_is_integer P w K mg base) : O_law_all_integers P w K mg base := by
  obtain ⟨fd_law_is_integer, X_law_is_integer, G_law_is_integer⟩ := D_law_is_integer.ex
  have K_law_is_integer := X_law_is_integer.kp
  have B_law_is_integer := X_law_is_integer.bindsN (ps := ["thing"]) fun _ _ _ _ _ _ us hl => match us, hl with | [_], _ => rfl
  have V_law_is_integer : Vals [] [] := .nil
  obtain ⟨fd, X⟩ := T.d_law_all_integers
  refine ⟨fd, X, X.ok sc_law_all_integers (fun vs H Q E h => len_law_all_integers h) (fun cdv A outer s H vs Q E hr h => ⟨t_law_all_integers K E, PSs.nox ?_, pure_law_all_integers vs H Q E h⟩)⟩
  exact (pss_one (ps_ret (pe_cmpR op_eq (pe_callB cr_lenQ rfl T.z_len (by decide +kernel) (pa_cons (pe_lc (own := [("number", 1)]) (g := (gName 1)) (tt := (tNot (tB (tCall (sp_law_is_integer K) [] E0 (tCons (tVar 1) tNil))))) rfl sc_law_all_integers.nd (pi_list (pv 0)) (blkOk_by (N := R_law_all_integers) (sc := defScope s_law_all_integers) (by decide +kernel)) (fun _ _ _ _ _ => (pg_name (i := 1) sc_law_all_integers.nd rfl (Or.inl rfl))) (fun _ _ _ _ _ => (pts_one (pt_not (pt_val (pe_call G_law_is_integer (hr.mono (by decide)) rfl T.g__law_is_integer K_law_is_integer B_law_is_integer V_law_is_integer pass0 (pa_cons (pv 1) pa_nil)))))) (fun _ _ _ _ _ => (pv 1))) pa_nil)) pe_int (nomark _))))
theorem ok_law_is_list {P : Program} {w : World} {K : PySem.W.Frag} {mg : Str → Option Value} {base : Heap} (T : Txt K mg) (D_law_all_integers : O_law_all_integers P w K mg base) : O_law_is_list P w K mg base := by
  obtain ⟨fd_law_all_integers, X_law_all_integers, G_law_all_integers⟩ := D_law_all_integers.ex
  have K_law_all_integers := X_law_all_integers.kp
  have B_law_all_integers := X_law_all_integers.bindsN (ps := ["numbers"]) fun _ _ _ _ _ _ us hl => match us, hl with | [_], _ => rfl
  have V_law_all_integers : Vals [] [] := .nil
  obtain ⟨fd, X⟩ := T.d_law_is_list
  refine ⟨fd, X, X.ok sc_law_is_list (fun vs H Q E h => len_law_is_list h) (fun cdv A outer s H vs Q E hr h => ⟨t_law_is_list K E, PSs.nox ?_, pure_law_is_list vs H Q E h⟩)⟩
  exact (pss_one (ps_ret (pe_and (pe_callB call_isi rfl T.z_isinstance (by decide +kernel) (pa_cons (pv 0) (pa_cons (pe_bltn rfl T.z_list (by decide +kernel) rfl) pa_nil))) (pe_and (pe_call G_law_all_integers (hr.mono (by decide)) rfl T.g__law_all_integers K_law_all_integers B_law_all_integers V_law_all_integers pass0 (pa_cons (pv 0) pa_nil)) (pe_one (pe_cmpR (op_eqD hr.units) (pv 0) (pv 1) (nomark _)))))))
theorem ok_law_moves {P : Program} {w : World} {K : PySem.W.Frag} {mg : Str → Option Value} {base : Heap} (T : Txt K mg) (D_law_wins : O_law_wins P w K mg base) (D_Order_m_winning : O_Order_m_winning P w K mg base) (D_law_is_list : O_law_is_list P w K mg base) : O_law_moves P w K mg base := by
  obtain ⟨fd_law_wins, X_law_wins, G_law_wins⟩ := D_law_wins.ex
  have K_law_wins := X_law_wins.kp
  have B_law_wins := X_law_wins.bindsN (ps := ["model", "known", "at", "side"]) fun _ _ _ _ _ _ us hl => match us, hl with | [_, _, _, _], _ => rfl
  have V_law_wins : Vals [] [] := .nil
  obtain ⟨fd_Order_m_winning, X_Order_m_winning, G_Order_m_winning⟩ := D_Order_m_winning.ex
  have K_Order_m_winning := X_Order_m_winning.kp
  have B_Order_m_winning := X_Order_m_winning.bindsN (ps := ["self", "game", "side"]) fun _ _ _ _ _ _ us hl => match us, hl with | [_, _, _], _ => rfl
  have V_Order_m_winning : Vals [] [] := .nil
  obtain ⟨fd_law_is_list, X_law_is_list, G_law_is_list⟩ := D_law_is_list.ex
  have K_law_is_list := X_law_is_list.kp
  have B_law_is_list := X_law_is_list.bindsN (ps := ["told", "due"]) fun _ _ _ _ _ _ us hl => match us, hl with | [_, _], _ => rfl
  have V_law_is_list : Vals [] [] := .nil
  obtain ⟨fd, X⟩ := T.d_law_moves
  refine ⟨fd, X, X.ok sc_law_moves (fun vs H Q E h => len_law_moves h) (fun cdv A outer s H vs Q E hr h => ⟨t_law_moves P w K E, PSs.nox ?_, pure_law_moves vs H Q E h⟩)⟩
  exact (pss_cons (ps_set (i := 6) sc_law_moves.nd rfl (Or.inl rfl) (pe_callB cr_sortedI rfl T.z_sorted (by decide +kernel) (pa_cons (pe_lc (own := [("k", 7)]) (g := (gName 7)) (tt := (tNot (tB (tCall (sp_law_wins K 25) [] E0 (tCons (tVar 1) (tCons (tVar 3) (tCons (tVar 7) (tCons (tOp rSubI (tC (.int 1)) (tVar 5)) tNil)))))))) rfl sc_law_moves.nd (pi_list (pe_ix ix_tup (pe_ix ix_list (pv 1) (pv 4) (fun _ _ => rfl)) (pv 5) (fun _ _ => rfl))) (blkOk_by (N := R_law_moves) (sc := defScope s_law_moves) (by decide +kernel)) (fun _ _ _ _ _ => (pg_name (i := 7) sc_law_moves.nd rfl (Or.inl rfl))) (fun _ _ _ _ _ => (pts_one (pt_not (pt_val (pe_call G_law_wins (hr.mono (by decide)) rfl T.g__law_wins K_law_wins B_law_wins V_law_wins pass0 (pa_cons (pv 1) (pa_cons (pv 3) (pa_cons (pv 7) (pa_cons (pe_op op_sub pe_int (pv 5)) pa_nil))))))))) (fun _ _ _ _ _ => (pe_ix ix_list (pv 2) (pv 7) (fun _ _ => rfl)))) pa_nil)))
      (pss_cons (ps_set (i := 8) sc_law_moves.nd rfl (Or.inl rfl) (pe_ix ix_list (pe_lst (pa_cons pe_str (pa_cons pe_str pa_nil))) (pv 5) (fun _ _ => rfl)))
      (pss_cons (ps_set (i := 9) sc_law_moves.nd rfl (Or.inl rfl) (pe_meth (pv 0) T.cl_Order T.mt_Order_winning G_Order_m_winning (hr.mono (by decide)) B_Order_m_winning .nil pass0 (pa_cons (pe_ix ix_list (pv 2) (pv 4) (fun _ _ => rfl)) (pa_cons (pv 8) pa_nil))))
      (pss_cons (ps_if (pt_not (pt_val (pe_call G_law_is_list (hr.mono (by decide)) rfl T.g__law_is_list K_law_is_list B_law_is_list V_law_is_list pass0 (pa_cons (pv 9) (pa_cons (pv 6) pa_nil))))) (pss_one (ps_ret pe_bl)) pss_nil)
      (pss_cons (ps_expr (pe_bm PySem.F.plainAttrs_list PySem.F.slot_list_append PySem.F.type_list_append mt_append (pv 9) (pa_cons (pe_ix ix_list (pv 2) (pv 4) (fun _ _ => rfl)) pa_nil)))
      (pss_cons (ps_expr (pe_bm0 PySem.F.plainAttrs_list PySem.F.slot_list_reverse PySem.F.type_list_reverse mt_reverse (pv 9)))
      (pss_one (ps_ret (pe_call G_law_is_list (hr.mono (by decide)) rfl T.g__law_is_list K_law_is_list B_law_is_list V_law_is_list pass0 (pa_cons (pe_meth (pv 0) T.cl_Order T.mt_Order_winning G_Order_m_winning (hr.mono (by decide)) B_Order_m_winning .nil pass0 (pa_cons (pe_ix ix_list (pv 2) (pv 4) (fun _ _ => rfl)) (pa_cons (pv 8) pa_nil))) (pa_cons (pv 6) pa_nil)))))))))))
theorem ok_law {P : Program} {w : World} {K : PySem.W.Frag} {mg : Str → Option Value} {base : Heap} (T : Txt K mg) (D_Yard_d_init : O_Yard_d_init P w K mg base) (D_Order_d_init : O_Order_d_init P w K mg base) (D_law_family : O_law_family P w K mg base) (D_law_count : O_law_count P w K mg base) (D_law_cell : O_law_cell P w K mg base) (D_law_built : O_law_built P w K mg base) (D_law_outcome : O_law_outcome P w K mg base) (D_law_moves : O_law_moves P w K mg base) : O_law P w K mg base := by
  obtain ⟨fd_Yard_d_init, X_Yard_d_init, G_Yard_d_init⟩ := D_Yard_d_init.ex
  have K_Yard_d_init := X_Yard_d_init.kp
  have B_Yard_d_init := X_Yard_d_init.bindsN (ps := ["self"]) fun _ _ _ _ _ _ us hl => match us, hl with | [_], _ => rfl
  have V_Yard_d_init : Vals [] [] := .nil
  obtain ⟨fd_Order_d_init, X_Order_d_init, G_Order_d_init⟩ := D_Order_d_init.ex
  have K_Order_d_init := X_Order_d_init.kp
  have B_Order_d_init := X_Order_d_init.bindsN (ps := ["self", "yard"]) fun _ _ _ _ _ _ us hl => match us, hl with | [_, _], _ => rfl
  have V_Order_d_init : Vals [] [] := .nil
  obtain ⟨fd_law_family, X_law_family, G_law_family⟩ := D_law_family.ex
  have K_law_family := X_law_family.kp
  have B_law_family := X_law_family.bindsN (ps := ["script", "first", "count", "most"]) fun _ _ _ _ _ _ us hl => match us, hl with | [_, _, _, _], _ => rfl
  have V_law_family : Vals [] [] := .nil
  obtain ⟨fd_law_count, X_law_count, G_law_count⟩ := D_law_count.ex
  have K_law_count := X_law_count.kp
  have B_law_count := X_law_count.bindsN (ps := ["cell"]) fun _ _ _ _ _ _ us hl => match us, hl with | [_], _ => rfl
  have V_law_count : Vals [] [] := .nil
  obtain ⟨fd_law_cell, X_law_cell, G_law_cell⟩ := D_law_cell.ex
  have K_law_cell := X_law_cell.kp
  have B_law_cell := X_law_cell.bindsN (ps := ["script", "k"]) fun _ _ _ _ _ _ us hl => match us, hl with | [_, _], _ => rfl
  have V_law_cell : Vals [] [] := .nil
  obtain ⟨fd_law_built, X_law_built, G_law_built⟩ := D_law_built.ex
  have K_law_built := X_law_built.kp
  have B_law_built := X_law_built.bindsN (ps := ["yard", "model"]) fun _ _ _ _ _ _ us hl => match us, hl with | [_, _], _ => rfl
  have V_law_built : Vals [] [] := .nil
  obtain ⟨fd_law_outcome, X_law_outcome, G_law_outcome⟩ := D_law_outcome.ex
  have K_law_outcome := X_law_outcome.kp
  have B_law_outcome := X_law_outcome.bindsN (ps := ["order", "model", "numbers", "known", "at"]) fun _ _ _ _ _ _ us hl => match us, hl with | [_, _, _, _, _], _ => rfl
  have V_law_outcome : Vals [] [] := .nil
  obtain ⟨fd_law_moves, X_law_moves, G_law_moves⟩ := D_law_moves.ex
  have K_law_moves := X_law_moves.kp
  have B_law_moves := X_law_moves.bindsN (ps := ["order", "model", "numbers", "known", "at", "side"]) fun _ _ _ _ _ _ us hl => match us, hl with | [_, _, _, _, _, _], _ => rfl
  have V_law_moves : Vals [] [] := .nil
  obtain ⟨fd, X⟩ := T.d_law
  refine ⟨fd, X, X.ok sc_law (fun vs H Q E h => len_law h) (fun cdv A outer s H vs Q E hr h => ⟨t_law P w K E, PSs.nox ?_, pure_law vs H Q E h⟩)⟩
  exact (pss_cons (ps_set (i := 1) sc_law.nd rfl (Or.inl rfl) (pe_make0 T.mk_Yard G_Yard_d_init (hr.mono (by decide)) rfl T.g_Yard B_Yard_d_init V_Yard_d_init pass0))
      (pss_cons (ps_set (i := 2) sc_law.nd rfl (Or.inl rfl) (pe_make T.mk_Order G_Order_d_init (hr.mono (by decide)) rfl T.g_Order B_Order_d_init V_Order_d_init pass0 (pa_cons (pv 1) pa_nil)))
      (pss_cons (ps_set (i := 3) sc_law.nd rfl (Or.inl rfl) (pe_ix ix_tup (pe_call G_law_family (hr.mono (by decide)) rfl T.g__law_family K_law_family B_law_family V_law_family pass0 (pa_cons (pv 0) (pa_cons pe_int (pa_cons (pe_call G_law_count (hr.mono (by decide)) rfl T.g__law_count K_law_count B_law_count V_law_count pass0 (pa_cons (pe_call G_law_cell (hr.mono (by decide)) rfl T.g__law_cell K_law_cell B_law_cell V_law_cell pass0 (pa_cons (pv 0) (pa_cons pe_int pa_nil))) pa_nil)) (pa_cons pe_int pa_nil))))) pe_int (fun _ _ => rfl)))
      (pss_cons (ps_set (i := 4) sc_law.nd rfl (Or.inl rfl) (pe_call G_law_built (hr.mono (by decide)) rfl T.g__law_built K_law_built B_law_built V_law_built pass0 (pa_cons (pv 1) (pa_cons (pv 3) pa_nil))))
      (pss_cons (ps_set (i := 5) sc_law.nd rfl (Or.inl rfl) pe_dnewT)
      (pss_cons (ps_for PassesOwn.never rfl (pi_range1 rfl T.z_range (pa_cons (pe_callB cr_lenQ rfl T.z_len (by decide +kernel) (pa_cons (pv 3) pa_nil)) pa_nil)) (pg_name (i := 6) sc_law.nd rfl (Or.inl rfl))
      (pss_cons (ps_set (i := 7) sc_law.nd rfl (Or.inl rfl) (pe_ifExp (pt_cmpR op_eq (pe_op op_mod (pe_callB cr_lenQ rfl T.z_len (by decide +kernel) (pa_cons (pv 0) pa_nil)) pe_int) pe_int (nomark _)) (pv 6) (pe_op op_sub (pe_op op_sub (pe_callB cr_lenQ rfl T.z_len (by decide +kernel) (pa_cons (pv 3) pa_nil)) pe_int) (pv 6))))
      (pss_cons (ps_if (pt_not (pt_val (pe_call G_law_outcome (hr.mono (by decide)) rfl T.g__law_outcome K_law_outcome B_law_outcome V_law_outcome pass0 (pa_cons (pv 2) (pa_cons (pv 3) (pa_cons (pv 4) (pa_cons (pv 5) (pa_cons (pv 7) pa_nil)))))))) (pss_one (ps_ret pe_bl)) pss_nil)
      (pss_one (ps_if (PW.pt (pw_or (pt_not (pt_val (pe_call G_law_moves (hr.mono (by decide)) rfl T.g__law_moves K_law_moves B_law_moves V_law_moves pass0 (pa_cons (pv 2) (pa_cons (pv 3) (pa_cons (pv 4) (pa_cons (pv 5) (pa_cons (pv 7) (pa_cons pe_int pa_nil))))))))) (pw_or1 (pt_not (pt_val (pe_call G_law_moves (hr.mono (by decide)) rfl T.g__law_moves K_law_moves B_law_moves V_law_moves pass0 (pa_cons (pv 2) (pa_cons (pv 3) (pa_cons (pv 4) (pa_cons (pv 5) (pa_cons (pv 7) (pa_cons pe_int pa_nil)))))))))))) (pss_one (ps_ret pe_bl)) pss_nil)))))
      (pss_cons (ps_for PassesOwn.never rfl (pi_range1 rfl T.z_range (pa_cons (pe_callB cr_lenQ rfl T.z_len (by decide +kernel) (pa_cons (pv 3) pa_nil)) pa_nil)) (pg_name (i := 7) sc_law.nd rfl (Or.inl rfl))
      (pss_one (ps_if (pt_not (pt_val (pe_call G_law_outcome (hr.mono (by decide)) rfl T.g__law_outcome K_law_outcome B_law_outcome V_law_outcome pass0 (pa_cons (pv 2) (pa_cons (pv 3) (pa_cons (pv 4) (pa_cons (pv 5) (pa_cons (pv 7) pa_nil)))))))) (pss_one (ps_ret pe_bl)) pss_nil)))
      (pss_one (ps_ret pe_bl)))))))))
theorem all_ok {P : Program} {w : World} {K : PySem.W.Frag} {mg : Str → Option Value} {base : Heap} (T : Txt K mg) : O_law P w K mg base := by
  have h_Yard_d_init : O_Yard_d_init P w K mg base := ok_Yard_d_init T 
  have h_Wins_d_init : O_Wins_d_init P w K mg base := ok_Wins_d_init T 
  have h_Pairs_d_init : O_Pairs_d_init P w K mg base := ok_Pairs_d_init T h_Wins_d_init
  have h_Yard_m_size : O_Yard_m_size P w K mg base := ok_Yard_m_size T 
  have h_Yard_m_check : O_Yard_m_check P w K mg base := ok_Yard_m_check T 
  have h_Yard_m_lefts : O_Yard_m_lefts P w K mg base := ok_Yard_m_lefts T h_Yard_m_check
  have h_Yard_m_rights : O_Yard_m_rights P w K mg base := ok_Yard_m_rights T h_Yard_m_check
  have h_Wins_m_catch_up : O_Wins_m_catch_up P w K mg base := ok_Wins_m_catch_up T h_Yard_m_size h_Yard_m_lefts h_Yard_m_rights
  have h_Pairs_m_catch_up : O_Pairs_m_catch_up P w K mg base := ok_Pairs_m_catch_up T h_Wins_m_catch_up h_Yard_m_size h_Yard_m_lefts h_Yard_m_rights
  have h_Ranks_d_init : O_Ranks_d_init P w K mg base := ok_Ranks_d_init T 
  have h_is_whole : O_is_whole P w K mg base := ok_is_whole T 
  have h_plain : O_plain P w K mg base := ok_plain T 
  have h_Dyadic_d_init : O_Dyadic_d_init P w K mg base := ok_Dyadic_d_init T h_is_whole h_plain
  have h_Dyads_d_init : O_Dyads_d_init P w K mg base := ok_Dyads_d_init T h_Dyadic_d_init
  have h_SimpleSums_d_init : O_SimpleSums_d_init P w K mg base := ok_SimpleSums_d_init T h_Dyads_d_init
  have h_SimpleForms_d_init : O_SimpleForms_d_init P w K mg base := ok_SimpleForms_d_init T h_Yard_d_init h_Pairs_d_init h_Pairs_m_catch_up h_Ranks_d_init h_SimpleSums_d_init
  have h_Order_d_init : O_Order_d_init P w K mg base := ok_Order_d_init T h_Wins_d_init h_SimpleForms_d_init
  have h_law_drawn : O_law_drawn P w K mg base := ok_law_drawn T 
  have h_law_digits : O_law_digits P w K mg base := ok_law_digits T 
  have h_law_cell : O_law_cell P w K mg base := ok_law_cell T 
  have h_law_put : O_law_put P w K mg base := ok_law_put T 
  have h_law_family : O_law_family P w K mg base := ok_law_family T h_law_drawn h_law_digits h_law_cell h_law_put
  have h_law_count : O_law_count P w K mg base := ok_law_count T 
  have h_Yard_p_kept : O_Yard_p_kept P w K mg base := ok_Yard_p_kept T 
  have h_Yard_m_game : O_Yard_m_game P w K mg base := ok_Yard_m_game T h_Yard_m_check h_Yard_p_kept
  have h_law_built : O_law_built P w K mg base := ok_law_built T h_Yard_m_game
  have h_law_wins : O_law_wins P w K mg base := ok_law_wins T 
  have h_Wins_m_can_win : O_Wins_m_can_win P w K mg base := ok_Wins_m_can_win T 
  have h_Order_m_can_win : O_Order_m_can_win P w K mg base := ok_Order_m_can_win T h_Yard_m_check h_Wins_m_catch_up h_Wins_m_can_win
  have h_Order_m_outcome : O_Order_m_outcome P w K mg base := ok_Order_m_outcome T h_Order_m_can_win
  have h_law_outcome : O_law_outcome P w K mg base := ok_law_outcome T h_law_wins h_Order_m_outcome
  have h_other_side : O_other_side P w K mg base := ok_other_side T 
  have h_Yard_m_options : O_Yard_m_options P w K mg base := ok_Yard_m_options T h_Yard_m_lefts h_Yard_m_rights
  have h_Order_m_winning : O_Order_m_winning P w K mg base := ok_Order_m_winning T h_other_side h_Yard_m_options h_Order_m_can_win
  have h_law_is_integer : O_law_is_integer P w K mg base := ok_law_is_integer T 
  have h_law_all_integers : O_law_all_integers P w K mg base := ok_law_all_integers T h_law_is_integer
  have h_law_is_list : O_law_is_list P w K mg base := ok_law_is_list T h_law_all_integers
  have h_law_moves : O_law_moves P w K mg base := ok_law_moves T h_law_wins h_Order_m_winning h_law_is_list
  have h_law : O_law P w K mg base := ok_law T h_Yard_d_init h_Order_d_init h_law_family h_law_count h_law_cell h_law_built h_law_outcome h_law_moves
  exact h_law
theorem txt_of {K : PySem.W.Frag} {h : Heap} {mg : Str → Option Value} (X : K.In h) (G : h.Ns mainGlobals mg) (c : SaysM fs fn K) : Txt K mg where
  g_BadValue := He.glo_ok X G (c.fact 0 rfl)
  g_Dyadic := He.glo_ok X G (c.fact 1 rfl)
  g_Dyads := He.glo_ok X G (c.fact 2 rfl)
  g_Order := He.glo_ok X G (c.fact 3 rfl)
  g_Pairs := He.glo_ok X G (c.fact 4 rfl)
  g_Ranks := He.glo_ok X G (c.fact 5 rfl)
  g_SimpleForms := He.glo_ok X G (c.fact 6 rfl)
  g_SimpleSums := He.glo_ok X G (c.fact 7 rfl)
  g_Wins := He.glo_ok X G (c.fact 8 rfl)
  g_Yard := He.glo_ok X G (c.fact 9 rfl)
  g__law_all_integers := He.glo_ok X G (c.fact 10 rfl)
  g__law_built := He.glo_ok X G (c.fact 11 rfl)
  g__law_cell := He.glo_ok X G (c.fact 12 rfl)
  g__law_count := He.glo_ok X G (c.fact 13 rfl)
  g__law_digits := He.glo_ok X G (c.fact 14 rfl)
  g__law_drawn := He.glo_ok X G (c.fact 15 rfl)
  g__law_family := He.glo_ok X G (c.fact 16 rfl)
  g__law_is_integer := He.glo_ok X G (c.fact 17 rfl)
  g__law_is_list := He.glo_ok X G (c.fact 18 rfl)
  g__law_moves := He.glo_ok X G (c.fact 19 rfl)
  g__law_outcome := He.glo_ok X G (c.fact 20 rfl)
  g__law_put := He.glo_ok X G (c.fact 21 rfl)
  g__law_wins := He.glo_ok X G (c.fact 22 rfl)
  g__plain := He.glo_ok X G (c.fact 23 rfl)
  g_is_whole := He.glo_ok X G (c.fact 24 rfl)
  g_law := He.glo_ok X G (c.fact 25 rfl)
  g_other_side := He.glo_ok X G (c.fact 26 rfl)
  z_any := He.free_ok X G (c.fact 27 rfl)
  z_bool := He.free_ok X G (c.fact 28 rfl)
  z_int := He.free_ok X G (c.fact 29 rfl)
  z_isinstance := He.free_ok X G (c.fact 30 rfl)
  z_len := He.free_ok X G (c.fact 31 rfl)
  z_list := He.free_ok X G (c.fact 32 rfl)
  z_max := He.free_ok X G (c.fact 33 rfl)
  z_range := He.free_ok X G (c.fact 34 rfl)
  z_set := He.free_ok X G (c.fact 35 rfl)
  z_sorted := He.free_ok X G (c.fact 36 rfl)
  z_str := He.free_ok X G (c.fact 37 rfl)
  z_tuple := He.free_ok X G (c.fact 38 rfl)
  z_type := He.free_ok X G (c.fact 39 rfl)
  c_MOST_POWER := He.int_ok X G (c.fact 40 rfl)
  c_MOST_TOP := He.int_ok X G (c.fact 41 rfl)
  cl_Dyadic := He.cls_ok (c.fact 42 rfl)
  cl_Dyads := He.cls_ok (c.fact 43 rfl)
  cl_Order := He.cls_ok (c.fact 44 rfl)
  cl_Pairs := He.cls_ok (c.fact 45 rfl)
  cl_Ranks := He.cls_ok (c.fact 46 rfl)
  cl_SimpleForms := He.cls_ok (c.fact 47 rfl)
  cl_SimpleSums := He.cls_ok (c.fact 48 rfl)
  cl_Wins := He.cls_ok (c.fact 49 rfl)
  cl_Yard := He.cls_ok (c.fact 50 rfl)
  bm_SimpleForms_reduced := bm_ok (c.fact 51 rfl)
  x_BadValue := He.exc_ok (c.fact 52 rfl)
  mt_Order_can_win := He.meth_ok (c.fact 53 rfl)
  mt_Order_outcome := He.meth_ok (c.fact 54 rfl)
  mt_Order_winning := He.meth_ok (c.fact 55 rfl)
  mt_Pairs_catch_up := He.meth_ok (c.fact 56 rfl)
  mt_Wins_can_win := He.meth_ok (c.fact 57 rfl)
  mt_Wins_catch_up := He.meth_ok (c.fact 58 rfl)
  mt_Yard__kept := He.meth_ok (c.fact 59 rfl)
  mt_Yard_check := He.meth_ok (c.fact 60 rfl)
  mt_Yard_game := He.meth_ok (c.fact 61 rfl)
  mt_Yard_lefts := He.meth_ok (c.fact 62 rfl)
  mt_Yard_options := He.meth_ok (c.fact 63 rfl)
  mt_Yard_rights := He.meth_ok (c.fact 64 rfl)
  mk_Dyadic := He.mkr_ok (c.fact 65 rfl)
  mk_Dyads := He.mkr_ok (c.fact 66 rfl)
  mk_Order := He.mkr_ok (c.fact 67 rfl)
  mk_Pairs := He.mkr_ok (c.fact 68 rfl)
  mk_Ranks := He.mkr_ok (c.fact 69 rfl)
  mk_SimpleForms := He.mkr_ok (c.fact 70 rfl)
  mk_SimpleSums := He.mkr_ok (c.fact 71 rfl)
  mk_Wins := He.mkr_ok (c.fact 72 rfl)
  mk_Yard := He.mkr_ok (c.fact 73 rfl)
  na_Dyadic__power := He.noat_ok (c.fact 74 rfl)
  na_Dyadic__top := He.noat_ok (c.fact 75 rfl)
  na_Dyads__forms := He.noat_ok (c.fact 76 rfl)
  na_Dyads__numbers := He.noat_ok (c.fact 77 rfl)
  na_Dyads__yard := He.noat_ok (c.fact 78 rfl)
  na_Order__simple := He.noat_ok (c.fact 79 rfl)
  na_Order__wins := He.noat_ok (c.fact 80 rfl)
  na_Order__yard := He.noat_ok (c.fact 81 rfl)
  na_Pairs__known := He.noat_ok (c.fact 82 rfl)
  na_Pairs__lefts := He.noat_ok (c.fact 83 rfl)
  na_Pairs__rights := He.noat_ok (c.fact 84 rfl)
  na_Pairs__wins := He.noat_ok (c.fact 85 rfl)
  na_Pairs__yard := He.noat_ok (c.fact 86 rfl)
  na_Ranks__asked := He.noat_ok (c.fact 87 rfl)
  na_Ranks__better := He.noat_ok (c.fact 88 rfl)
  na_Ranks__bits := He.noat_ok (c.fact 89 rfl)
  na_Ranks__forms := He.noat_ok (c.fact 90 rfl)
  na_Ranks__pairs := He.noat_ok (c.fact 91 rfl)
  na_SimpleForms__forms := He.noat_ok (c.fact 92 rfl)
  na_SimpleForms__known_sums := He.noat_ok (c.fact 93 rfl)
  na_SimpleForms__own := He.noat_ok (c.fact 94 rfl)
  na_SimpleForms__own_forms := He.noat_ok (c.fact 95 rfl)
  na_SimpleForms__pairs := He.noat_ok (c.fact 96 rfl)
  na_SimpleForms__ranks := He.noat_ok (c.fact 97 rfl)
  na_SimpleForms__sums := He.noat_ok (c.fact 98 rfl)
  na_SimpleForms__yard := He.noat_ok (c.fact 99 rfl)
  na_SimpleSums__dyads := He.noat_ok (c.fact 100 rfl)
  na_SimpleSums__reduced := He.noat_ok (c.fact 101 rfl)
  na_SimpleSums__sums := He.noat_ok (c.fact 102 rfl)
  na_SimpleSums__yard := He.noat_ok (c.fact 103 rfl)
  na_Wins__left := He.noat_ok (c.fact 104 rfl)
  na_Wins__right := He.noat_ok (c.fact 105 rfl)
  na_Wins__yard := He.noat_ok (c.fact 106 rfl)
  na_Yard__heights := He.noat_ok (c.fact 107 rfl)
  na_Yard__lefts := He.noat_ok (c.fact 108 rfl)
  na_Yard__numbers := He.noat_ok (c.fact 109 rfl)
  na_Yard__rights := He.noat_ok (c.fact 110 rfl)
  na_Yard__turned := He.noat_ok (c.fact 111 rfl)
  pr_Yard_size := prop_ok (c.fact 112 rfl)
  d_Yard_d_init := c.dfn 0 rfl
  d_Wins_d_init := c.dfn 1 rfl
  d_Pairs_d_init := c.dfn 2 rfl
  d_Yard_m_size := c.dfn 3 rfl
  d_Yard_m_check := c.dfn 4 rfl
  d_Yard_m_lefts := c.dfn 5 rfl
  d_Yard_m_rights := c.dfn 6 rfl
  d_Wins_m_catch_up := c.dfn 7 rfl
  d_Pairs_m_catch_up := c.dfn 8 rfl
  d_Ranks_d_init := c.dfn 9 rfl
  d_is_whole := c.dfn 10 rfl
  d_plain := c.dfn 11 rfl
  d_Dyadic_d_init := c.dfn 12 rfl
  d_Dyads_d_init := c.dfn 13 rfl
  d_SimpleSums_d_init := c.dfn 14 rfl
  d_SimpleForms_d_init := c.dfn 15 rfl
  d_Order_d_init := c.dfn 16 rfl
  d_law_drawn := c.dfn 17 rfl
  d_law_digits := c.dfn 18 rfl
  d_law_cell := c.dfn 19 rfl
  d_law_put := c.dfn 20 rfl
  d_law_family := c.dfn 21 rfl
  d_law_count := c.dfn 22 rfl
  d_Yard_p_kept := c.dfn 23 rfl
  d_Yard_m_game := c.dfn 24 rfl
  d_law_built := c.dfn 25 rfl
  d_law_wins := c.dfn 26 rfl
  d_Wins_m_can_win := c.dfn 27 rfl
  d_Order_m_can_win := c.dfn 28 rfl
  d_Order_m_outcome := c.dfn 29 rfl
  d_law_outcome := c.dfn 30 rfl
  d_other_side := c.dfn 31 rfl
  d_Yard_m_options := c.dfn 32 rfl
  d_Order_m_winning := c.dfn 33 rfl
  d_law_is_integer := c.dfn 34 rfl
  d_law_all_integers := c.dfn 35 rfl
  d_law_is_list := c.dfn 36 rfl
  d_law_moves := c.dfn 37 rfl
  d_law := c.dfn 38 rfl
theorem facts {P : Program} {w : World} {K : PySem.W.Frag} {h : Heap} {mg : Str → Option Value} {f : Addr} (X : K.In h) (G : h.Ns mainGlobals mg) (hfa : mg ("law" : Str) = some (.ref f)) (c : SaysM fs fn K) (hg : (He.Fa.glo "law").ok K = true) :
    ∃ fd : FuncData, (∀ (s : Shared) (v : Value), BindsTo s fd ⟨[v], []⟩ [("script", v)]) ∧ ∀ base : Heap, K.In base → base.Ns mainGlobals mg → FnOk P w K mg base CX0 28 f fd ["script"] (sp_law P w K) := by
  have T := txt_of X G c
  obtain ⟨fd, F⟩ := T.d_law
  have e := hfa.symm.trans (He.glo_ok X G hg)
  cases e
  have b := FunD.bindsA (ps := ["script"]) F fun _ _ _ _ _ _ us hl => match us, hl with | [_], _ => rfl
  refine ⟨fd, fun s v => b s [v] rfl, fun base _ _ => ?_⟩
  obtain ⟨fd2, F2, G2⟩ := (all_ok (P := P) (w := w) (base := base) T).ex
  have e2 : fd2 = fd := fd_same F2 F
  rw [← e2]; exact G2
end Mine
open PySem PySem.W PySem.Calls PyProof.Rows
set_option maxRecDepth 100000 in
set_option maxHeartbeats 0 in
theorem PySem.Challenge.cw_sumsplay_k15_winning_moves_and_outcome_holds : PySem.Challenge.rw_sumsplay_k15_winning_moves_and_outcome.Holds := by
  w_on; o_law
  refine HandSHeadRun.head_any (r := OpenLaw.row PySem.Challenge.rw_sumsplay_k15_winning_moves_and_outcome) (q := view (OpenLaw.row PySem.Challenge.rw_sumsplay_k15_winning_moves_and_outcome).prog [51]) (H := Mine.Hd.hk) (ob := Mine.Hd.ob) (M := 20000) (loose := Mine.Hd.loose) (d := HandSHeadRun.topDef (OpenLaw.row PySem.Challenge.rw_sumsplay_k15_winning_moves_and_outcome).prog 51) (kwd := []) Mine.Hd.ob_eq
    (by kernel_rfl) (fun s => by kernel_rfl) Mine.Hd.run (by kernel_rfl) (by kernel_rfl) (by kernel_rfl) (by rfl) (by first | assumption | decide +kernel) (by decide +kernel) ⟨rfl, rfl, rfl, rfl, rfl, by decide +kernel⟩ ?hw ?hc
  case hw => w_witness2
  case hc =>
    refine L2.walk_ofE (l := PySem.Challenge.rw_sumsplay_k15_winning_moves_and_outcome) (n := 63) (k := 28) (x := "script") (CX := L2.CX0) rfl (by decide) (by kernel_rfl) ⟨rfl, by decide, by decide⟩ ?F (fun _ _ _ _ z => z)
    intro w mg fa h Y G hmg0
    obtain ⟨K, KX, c⟩ := Y
    have hmg : mg ("law" : PySem.Str) = some (.ref fa) := by
      have e : (HandSHeadRun.topDef (OpenLaw.row PySem.Challenge.rw_sumsplay_k15_winning_moves_and_outcome).prog 51).name = ("law" : PySem.Str) := by kernel_rfl
      rw [← e]
      exact hmg0
    obtain ⟨fd, hb, hF⟩ := Mine.facts (P := (PySem.Challenge.rw_sumsplay_k15_winning_moves_and_outcome).prog) (w := w) KX G hmg c (c.fact 25 rfl)
    exact ⟨K, fd, Mine.sp_law (PySem.Challenge.rw_sumsplay_k15_winning_moves_and_outcome).prog w K, KX, hb, fun H a ns hl _ hS => ⟨⟨a, ns, rfl, hS⟩, fun v H' e => e⟩, hF⟩
