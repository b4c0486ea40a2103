import PyProof.Rows.All
import Wide.All
import OpenK.AllK
import Wide.FinOn
import HandS.ForMost
import HandS.ForExc
import HandS.Defaults
import HandS.MakeKw
import HandS.MakeKwOnly
import HandS.IsInst
import HandS.Codes
import HandS.Property
import HandS.Evl
import HandS.Steps
import HandS.More
import HandS.WideBits
import HandS.Wide
import HandS.FStr
import HandS.HeadEnd
import HandS.HeadHook2
import HandS.HeadHook4
import HandS.HeadNt
import HandS.Head0
import HandS.Head1
import HandS.Head2
import HandS.ExcIs
import KE.KOpsOwn
import KE.BitLaws
import KE.KeyNested
import PyProof.Rows.TupDisplay
import HandS.Dict
import HandS.SetFor
import HandS.Strs
import PyProof.Rows.SetFrom
import HandS.TupAny
import HandS.SortInts
import HandS.WordsExc
import HandS.ExcOwn
import HandS.CallSlots
import HandS.Iter
import KE.GoesEnum
import KE.GoesMore
import HandS.Star
import KE.KEqDeep
import HandS.Style
import HandS.TupMul
import HandS.Text
import HandS.HeadHook3
import KE.KSetDisp
import KE.GoesSet
import PyProof.StrBlock2
import HandS.DictComp
import HandS.Small
import HandS.Flow
import HandS.EndBits
import KE.KDictKeyed
import KE.KDictWalk
import KE.KDictList
import HandS.SetKeys
import HandS.Deep
import PySem.Challenge.RW_sumsplay_k57_parts_of_hedges
set_option Elab.async false
set_option linter.all false
set_option maxRecDepth 100000
set_option maxHeartbeats 4000000
namespace Mine
open PySem PySem.Spec PyProof.Rows L2
/-! a target o.f -/
section
variable {X : Cx} {o : Expr} {f : Str} {pos : Pos} {ta : TE}
def gFld (K : PySem.W.Frag) (ta : TE) (f : Str) : TG := fun v σ H Q => ta σ H fun x H1 =>
  ∃ a C dx fs, x = V.ref a ∧ H1 a = some (HO.ins C dx fs) ∧ Cls K C ∧ NoAttr K C f ∧ fs.length < 1000 ∧ Q σ (upd H1 a (HO.ins C dx (putF f v fs)))
theorem pg_fld (ho : PE X o ta) : PG X (.Attribute o f pos) (gFld X.K ta f) := by
  constructor
  intro pins s σ H v u Q I rv hw
  rw [assign_Attribute]
  apply wpAny_bind
  apply wpAny_holding
  refine thn (ho.run pins s σ H _ I hw) ?_
  rintro ov s1 ⟨x, H1, I1, rx, a, C, dx, fs, rfl, ea, hc, hn, hl, q⟩
  cases (show ov = Value.ref a from rx)
  apply wpAny_bind
  apply wpAny_standAt
  apply wpAny_bind
  apply wpAny_holding
  refine setattr_ok I1 ea hc hn hl rv ?_
  intro s3 I3
  exact wpAny_release ⟨σ, _, I3, q⟩
end

open Evl (Ex)
/-! readings by short names -/
abbrev rAddI : R2 := rI0 fun i j => .int (i + j)
abbrev rSubI : R2 := rI0 fun i j => .int (i - j)
abbrev rMulI : R2 := rI CMul fun i j => .int (i * j)
abbrev rDivI : R2 := rI CDiv fun i j => .int (i / j)
abbrev rDivW : R2 := rI CDivW fun i j => .int (i / j)
abbrev rMulW : R2 := rI CMulW fun i j => .int (i * j)
abbrev rModI : R2 := rI (fun _ j => 0 < j) fun i j => .int (i % j)
abbrev rPowI : R2 := rI CPow fun i j => .int (i ^ j.toNat)
abbrev rShlI : R2 := rI CPow fun i j => .int (i * 2 ^ j.toNat)
abbrev rShrI : R2 := rI (fun _ j => 0 ≤ j) fun i j => .int (i / 2 ^ j.toNat)
abbrev rAndI : R2 := rI0 fun i j => .int (Builtin.bitAnd i j)
abbrev rOrI : R2 := rI0 fun i j => .int (Builtin.bitOr i j)
abbrev rXorI : R2 := rI0 fun i j => .int (Builtin.bitXor i j)
abbrev rLtI : R2 := rI0 fun i j => .bl (decide (i < j))
abbrev rLeI : R2 := rI0 fun i j => .bl (decide (i ≤ j))
abbrev rGtI : R2 := rI0 fun i j => .bl (decide (j < i))
abbrev rGeI : R2 := rI0 fun i j => .bl (decide (j ≤ i))
abbrev rNegI : V → Hp → VK → Prop := rU fun i => .int (-i)
def rIsTy : R2 := fun x y H Q => ∃ a b, x = V.ty a ∧
  y = V.ty b ∧ Q (.bl (decide (a = b))) H
def rIntI : List V → Hp → VK → Prop := fun xs H Q => ∃ i, xs = [V.int i] ∧ Q (.int i) H
def rAbsI : List V → Hp → VK → Prop := fun xs H Q => ∃ i, xs = [V.int i] ∧ Q (.int (if i < 0 then -i else i)) H
def rMax2 : List V → Hp → VK → Prop := fun xs H Q => ∃ i j, xs = [V.int i, V.int j] ∧
  Q (.int (if j > i then j else i)) H
def rMin2 : List V → Hp → VK → Prop := fun xs H Q => ∃ i j, xs = [V.int i, V.int j] ∧
  Q (.int (if j < i then j else i)) H
def rLenQ (K : PySem.W.Frag) : List V → Hp → VK → Prop := fun xs H Q => ∃ p ys, xs = [V.ref p] ∧
  (SqL K H p ys ∨ SqT K H p ys) ∧ Q (.int ys.length) H
def rLenS : List V → Hp → VK → Prop := fun xs H Q => ∃ z, xs = [V.str z] ∧ z.length ≤ sizeLine ∧
  Q (.int z.length) H
def rListQ (K : PySem.W.Frag) : List V → Hp → VK → Prop := fun xs H Q => ∃ p ys, xs = [V.ref p] ∧
  (SqL K H p ys ∨ SqT K H p ys) ∧ ∀ l, H l = none → Q (.ref l) (upd H l (.lst ys))
def rStrI : List V → Hp → VK → Prop := fun xs H Q => ∃ i, xs = [V.int i] ∧ i.natAbs.log2 < 1920 ∧
  Q (.str (toString i)) H
def rIsC (C : Addr) : List V → Hp → VK → Prop := fun xs H Q => ∃ a dx fs, xs = [V.ref a, V.ref C] ∧
  H a = some (HO.ins C dx fs) ∧ Q (.bl true) H
def rCatS : R2 := fun x y H Q => ∃ i j, x = V.str i ∧ y = V.str j ∧ i.length + j.length ≤ sizeLine ∧
  Q (.str (i ++ j)) H
section
variable {X : Cx}
theorem cr_intI : CallR X (.type "int") rIntI := fun pins s σ H xs us Q I r h =>
  call_int1 pins s σ H xs us Q I r (Or.inl h)
theorem cr_absI : CallR X (.builtin "abs") rAbsI := call_abs
theorem cr_max2 (hc : X.calm = true) : CallR X (.builtin "max") rMax2 := call_max2 hc
theorem cr_min2 (hc : X.calm = true) : CallR X (.builtin "min") rMin2 := call_min2 hc
theorem cr_lenQ : CallR X (.builtin "len") (rLenQ X.K) := call_len_seq
theorem cr_lenS : CallR X (.builtin "len") rLenS := call_len_str
theorem cr_listQ : CallR X (.type "list") (rListQ X.K) := call_list_of
theorem cr_strI : CallR X (.type "str") rStrI := call_str_int
theorem cr_isC {C : Addr} (c : C8.InsC X.K C) : CallR X (.builtin "isinstance") (rIsC C) := C8.call_isC c
theorem cst_ok {x : Str} {i : Int} (h : ∃ t, X.mg x = some (.int i t)) : ∃ u, X.mg x = some u ∧ RelV (.int i) u :=
  let ⟨t, e⟩ := h
  ⟨_, e, t, rfl⟩
end
/-! promises: what is asked, what is given, what is raised -/
def spR (pre : List V → Hp → Prop) (post : List V → Hp → V → Hp → Prop) : Sp := fun vs H Q _ =>
  pre vs H ∧ ∀ v H', post vs H v H' → Q v H'
def spX (pre : List V → Hp → Prop) (post : List V → Hp → V → Hp → Prop) (ex : List V → Hp → Value → Option Addr → Hp → Prop) : Sp := fun vs H Q E =>
  pre vs H ∧ (∀ v H', post vs H v H' → Q v H') ∧ ∀ c d H', ex vs H c d H' → E c d H'
structure DefOk (P : Program) (w : World) (K : PySem.W.Frag) (mg : Str → Option Value) (base : Heap) (CX : CXT) (k : Nat) (x qual : Str) (st : Stmt) (dvs : List V) (f : Addr) (ps : List Str) (sp : Sp) : Prop where
  ex : ∃ fd, FunD K x qual (defArgs st) (defBody st) (defScope st) dvs [] f fd ∧ FnOk P w K mg base CX k f fd ps sp
/-! readings, step by step, forwards -/
section
variable {σ : L2.St} {H : Hp} {Q : VK} {ta tb tc te tv : TE} {K : PySem.W.Frag} {D : Ends}
theorem k_var {i : Nat} {v : V} (h : σ[i]? = some (some v)) (q : Q v H) : tVar i σ H Q := ⟨v, h, q⟩
theorem k_c {v : V} (q : Q v H) : tC v σ H Q := q
theorem k_op {r : R2} (q : ta σ H fun x H1 => tb σ H1 fun y H2 => r x y H2 Q) : tOp r ta tb σ H Q := q
theorem k_un {r : V → Hp → VK → Prop} (q : ta σ H fun x H1 => r x H1 Q) : tUn r ta σ H Q := q
theorem k_I0 {g : Int → Int → V} {i j : Int} (q : Q (g i j) H) : rI0 g (.int i) (.int j) H Q := ⟨i, j, rfl, rfl, q⟩
theorem k_I {C : Int → Int → Prop} {g : Int → Int → V} {i j : Int} (c : C i j) (q : Q (g i j) H) : rI C g (.int i) (.int j) H Q := ⟨i, j, rfl, rfl, c, q⟩
theorem k_U {g : Int → V} {i : Int} (q : Q (g i) H) : rU g (.int i) H Q := ⟨i, rfl, q⟩
theorem k_eq {x y : V} (s : scal x y = true) (q : Q (.bl (decide (x = y))) H) : rEq x y H Q := ⟨s, q⟩
theorem k_ne {x y : V} (s : scal x y = true) (q : Q (.bl (!decide (x = y))) H) : rNe x y H Q := ⟨s, q⟩
theorem k_eqI {i j : Int} (q : Q (.bl (decide (i = j))) H) : rEq (.int i) (.int j) H Q := ⟨rfl, by
  have e : decide (V.int i = V.int j) = decide (i = j) := by simp
  rw [e]; exact q⟩
theorem k_eqB {i j : Bool} (q : Q (.bl (decide (i = j))) H) : rEq (.bl i) (.bl j) H Q := ⟨rfl, by
  have e : decide (V.bl i = V.bl j) = decide (i = j) := by simp
  rw [e]; exact q⟩
theorem k_neI {i j : Int} (q : Q (.bl (decide (i ≠ j))) H) : rNe (.int i) (.int j) H Q := ⟨rfl, by
  have e : (!decide (V.int i = V.int j)) = decide (i ≠ j) := by simp
  rw [e]; exact q⟩
theorem k_isTy {a b : String} (q : Q (.bl (decide (a = b))) H) : rIsTy (.ty a) (.ty b) H Q := ⟨a, b, rfl, rfl, q⟩
theorem k_isN {x : V} (q : Q (.bl (decide (x = .non))) H) : rIsN x .non H Q := ⟨rfl, q⟩
theorem k_notN {x : V} (q : Q (.bl (!decide (x = .non))) H) : rNotN x .non H Q := ⟨rfl, q⟩
theorem k_ixL {p : Addr} {xs : List V} {i : Int} {v : V} (h : SqL K H p xs) (e : atI xs i = some v) (q : Q v H) : rIxL K (.ref p) (.int i) H Q := ⟨p, xs, i, v, rfl, rfl, h, e, q⟩
theorem k_ixT {p : Addr} {xs : List V} {i : Int} {v : V} (h : SqT K H p xs) (e : atI xs i = some v) (q : Q v H) : rIxT K (.ref p) (.int i) H Q := ⟨p, xs, i, v, rfl, rfl, h, e, q⟩
theorem k_andV (q : ta σ H fun x H1 => ∃ c, x = .bl c ∧ if c = true then tb σ H1 Q else Q (.bl false) H1) : tAndV ta tb σ H Q := q
theorem k_orV (q : ta σ H fun x H1 => ∃ c, x = .bl c ∧ if c = true then Q (.bl true) H1 else tb σ H1 Q) : tOrV ta tb σ H Q := q
theorem k_notV (q : ta σ H fun x H1 => ∃ c, x = .bl c ∧ Q (.bl (!c)) H1) : tNotV ta σ H Q := q
theorem k_if {t : TT} (q : t σ H fun c H1 => if c = true then ta σ H1 Q else tb σ H1 Q) : tIf t ta tb σ H Q := q
theorem k_chain {r r' : R2} (q : ta σ H fun x H1 => tb σ H1 fun y H2 => r x y H2 fun z H3 => ∃ k, z = .bl k ∧ (if k = true then tc σ H3 fun w' H4 => r' y w' H4 Q else Q (.bl false) H3)) : tChain r r' ta tb tc σ H Q := q
theorem k_bl {P : Bool → Prop} {c : Bool} (q : P c) : ∃ k, V.bl c = V.bl k ∧ P k := ⟨c, rfl, q⟩
theorem k_tup {t : TA} (q : t σ H fun xs H1 => xs.length ≤ sizeLine ∧ ∀ p, H1 p = none → Q (.ref p) (upd H1 p (.tup xs))) : tTup t σ H Q := q
theorem k_lst {t : TA} (q : t σ H fun xs H1 => xs.length ≤ sizeLine ∧ ∀ p, H1 p = none → Q (.ref p) (upd H1 p (.lst xs))) : tLst t σ H Q := q
theorem k_cb {r : List V → Hp → VK → Prop} {t : TA} (q : t σ H fun vs H1 => r vs H1 Q) : tCB r t σ H Q := q
theorem k_nil {R : List V → Hp → Prop} (q : R [] H) : tNil σ H R := q
theorem k_cons {t : TA} {R : List V → Hp → Prop} (q : ta σ H fun x H1 => t σ H1 fun xs H2 => R (x :: xs) H2) : tCons ta t σ H R := q
theorem k_rInt {i : Int} (q : Q (.int i) H) : rIntI [.int i] H Q := ⟨i, rfl, q⟩
theorem k_rAbs {i : Int} (q : Q (.int (if i < 0 then -i else i)) H) : rAbsI [.int i] H Q := ⟨i, rfl, q⟩
theorem k_rMax {i j : Int} (q : Q (.int (if j > i then j else i)) H) : rMax2 [.int i, .int j] H Q := ⟨i, j, rfl, q⟩
theorem k_rMin {i j : Int} (q : Q (.int (if j < i then j else i)) H) : rMin2 [.int i, .int j] H Q := ⟨i, j, rfl, q⟩
theorem k_rLenL {p : Addr} {ys : List V} (h : SqL K H p ys) (q : Q (.int ys.length) H) : rLenQ K [.ref p] H Q := ⟨p, ys, rfl, Or.inl h, q⟩
theorem k_rLenT {p : Addr} {ys : List V} (h : SqT K H p ys) (q : Q (.int ys.length) H) : rLenQ K [.ref p] H Q := ⟨p, ys, rfl, Or.inr h, q⟩
theorem k_rStr {i : Int} (h : i.natAbs.log2 < 1920) (q : Q (.str (toString i)) H) : rStrI [.int i] H Q := ⟨i, rfl, h, q⟩
theorem k_rIsC {C a dx : Addr} {fs : List (Str × V)} (h : H a = some (.ins C dx fs)) (q : Q (.bl true) H) : rIsC C [.ref a, .ref C] H Q := ⟨a, dx, fs, rfl, h, q⟩
theorem k_isi {x c : V} {t u : Value} {b : Bool} (hc : ClsV c u) (ht : TyX K H x t) (e : PySem.W.kitOne K t u = some b) (q : Q (.bl b) H) : rIsi K [x, c] H Q := ⟨x, c, t, u, b, rfl, hc, ht, e, q⟩
theorem k_fld {a C dx : Addr} {fs : List (Str × V)} {f : Str} {v : V} (ha : ta σ H fun x H1 => x = .ref a ∧ H1 a = some (.ins C dx fs) ∧ Cls K C ∧ NoAttr K C f ∧ fs.lookup f = some v ∧ Q v H1)
    (mono : ∀ Q1 Q2 : VK, (∀ x H1, Q1 x H1 → Q2 x H1) → ta σ H Q1 → ta σ H Q2) : tFld K ta f σ H Q :=
  mono _ _ (fun _ _ ⟨h1, h2, h3, h4, h5, h6⟩ => ⟨a, C, dx, fs, v, h1, h2, h3, h4, h5, h6⟩) ha
theorem k_call {sp : Sp} {dvs : List V} {E : XK} {t : TA} (q : t σ H fun vs H1 => sp (vs ++ dvs) H1 Q E) : tCall sp dvs E t σ H Q := q
theorem k_meth {C : Addr} {m : Str} {sp : Sp} {dvs : List V} {E : XK} {t : TA} (q : ta σ H fun x H1 => ∃ a dx fs, x = .ref a ∧ H1 a = some (.ins C dx fs) ∧ fs.lookup m = none ∧ t σ H1 fun vs H2 => sp (x :: (vs ++ dvs)) H2 Q E) : tMeth C m sp dvs E ta t σ H Q := q
theorem k_make {C : Addr} {sp : Sp} {dvs : List V} {E : XK} {t : TA} (q : t σ H fun vs H1 => ∀ x dx, H1 x = none → H1 dx = none → dx ≠ x → sp (.ref x :: (vs ++ dvs)) (upd (upd H1 dx (.own x)) x (.ins C dx [])) (fun v H2 => v = .non ∧ Q (.ref x) H2) E) : tMake C sp dvs E t σ H Q := q
theorem k_prop {C : Addr} {sp : Sp} {dvs : List V} {E : XK} (q : ta σ H fun x H1 => ∃ a dx fs, x = .ref a ∧ H1 a = some (.ins C dx fs) ∧ sp (.ref a :: dvs) H1 Q E) : tProp C sp dvs E ta σ H Q := q
/-! tests -/
variable {t u : TT} {R : Bool → Hp → Prop}
theorem k_test (q : te σ H fun x H' => ∃ k, x = .bl k ∧ R k H') : tTest te σ H R := q
theorem k_B (q : te σ H fun x H' => ∃ k, x = .bl k ∧ R k H') : tB te σ H R := q
theorem k_and (q : t σ H fun c H1 => if c = true then u σ H1 R else R false H1) : tAnd t u σ H R := q
theorem k_or (q : t σ H fun c H1 => if c = true then R true H1 else u σ H1 R) : tOr t u σ H R := q
theorem k_not (q : t σ H fun c H1 => R (!c) H1) : tNot t σ H R := q
/-! statements -/
variable {t1 t2 : TS} {g : TG}
theorem k_seq (q : t1 { D with nx := t2 D } σ H) : tSeq t1 t2 D σ H := q
theorem k_next (q : D.nx σ H) : tNext D σ H := q
theorem k_asg (q : te σ H fun x H1 => g x σ H1 D.nx) : tAsg te g D σ H := q
theorem k_name {i : Nat} {v : V} {R : L2.St → Hp → Prop} (q : R (σ.set i (some v)) H) : gName i v σ H R := q
theorem k_ret (q : te σ H D.rt) : tRet te D σ H := q
theorem k_drop (q : te σ H fun _ H1 => D.nx σ H1) : tDrop te D σ H := q
theorem k_ifS (q : t σ H fun b H1 => if b = true then t1 D σ H1 else t2 D σ H1) : tIfS t t1 t2 D σ H := q
theorem k_gtup {n : Nat} {tg : TGs} {a : Addr} {xs : List V} {R : L2.St → Hp → Prop} (h : SqT K H a xs) (l : xs.length = n) (q : tg xs σ H R) : gTup K n tg (.ref a) σ H R := ⟨a, xs, rfl, h, l, q⟩
theorem k_gcons {tg : TG} {tr : TGs} {v : V} {r : List V} {R : L2.St → Hp → Prop} (q : tg v σ H fun σ' H' => tr r σ' H' R) : gCons tg tr (v :: r) σ H R := ⟨v, r, rfl, q⟩
theorem k_gnil {R : L2.St → Hp → Prop} (q : R σ H) : gNil [] σ H R := ⟨rfl, q⟩
theorem k_gfld {a C dx : Addr} {i : Nat} {fs : List (Str × V)} {f : Str} {v : V} {R : L2.St → Hp → Prop} (hs : σ[i]? = some (some (.ref a))) (h : H a = some (.ins C dx fs)) (hc : Cls K C) (hn : NoAttr K C f) (hl : fs.length < 1000) (q : R σ (upd H a (.ins C dx (putF f v fs)))) : gFld K (tVar i) f v σ H R :=
  ⟨_, hs, a, C, dx, fs, rfl, h, hc, hn, hl, q⟩
theorem k_fldv {a C dx : Addr} {i : Nat} {fs : List (Str × V)} {f : Str} {v : V} (hs : σ[i]? = some (some (.ref a))) (h : H a = some (.ins C dx fs)) (hc : Cls K C) (hn : NoAttr K C f) (hl : fs.lookup f = some v) (q : Q v H) : tFld K (tVar i) f σ H Q :=
  ⟨_, hs, a, C, dx, fs, v, rfl, h, hc, hn, hl, q⟩
theorem k_iteT {A B : Prop} (q : A) : if true = true then A else B := q
theorem k_iteF {A B : Prop} (q : B) : if false = true then A else B := by simpa using q
theorem k_pow12 (q : Q (.int 1000000000000) H) : rPowI (.int 10) (.int 12) H Q := k_I ⟨by decide, by decide, by decide⟩ q
theorem k_pow11 (q : Q (.int 100000000000) H) : rPowI (.int 10) (.int 11) H Q := k_I ⟨by decide, by decide, by decide⟩ q
theorem k_pow9 (q : Q (.int 1000000000) H) : rPowI (.int 10) (.int 9) H Q := k_I ⟨by decide, by decide, by decide⟩ q
theorem k_pow30 (q : Q (.int 1000000000000000000000000000000) H) : rPowI (.int 10) (.int 30) H Q := k_I ⟨by decide, by decide, by decide⟩ q
theorem k_pow18 (q : Q (.int 1000000000000000000) H) : rPowI (.int 10) (.int 18) H Q := k_I ⟨by decide, by decide, by decide⟩ q
theorem k_minL {i j : Int} (q : ∀ m, m ≤ i → m ≤ j → (m = i ∨ m = j) → Q (.int m) H) : rMin2 [.int i, .int j] H Q := by
  refine ⟨i, j, rfl, ?_⟩
  by_cases h : j < i
  · rw [if_pos h]; exact q j (by omega) (by omega) (Or.inr rfl)
  · rw [if_neg h]; exact q i (by omega) (by omega) (Or.inl rfl)
theorem k_maxL {i j : Int} (q : ∀ m, i ≤ m → j ≤ m → (m = i ∨ m = j) → Q (.int m) H) : rMax2 [.int i, .int j] H Q := by
  refine ⟨i, j, rfl, ?_⟩
  by_cases h : j > i
  · rw [if_pos h]; exact q j (by omega) (by omega) (Or.inr rfl)
  · rw [if_neg h]; exact q i (by omega) (by omega) (Or.inl rfl)
theorem k_shl1 {j : Int} (h : 0 ≤ j ∧ j ≤ 1000000) (q : ∀ m : Int, 1 ≤ m → m = 2 ^ j.toNat → Q (.int m) H) : rShlI (.int 1) (.int j) H Q := by
  refine k_I ⟨h.1, h.2, by decide⟩ ?_
  rw [Int.one_mul]
  refine q _ ?_ rfl
  have hp : (0 : Int) < 2 ^ j.toNat := Int.pow_pos (by decide)
  omega
theorem k_iteNT {A B : Prop} (q : B) : if (!true) = true then A else B := by simpa using q
theorem k_iteNF {A B : Prop} (q : A) : if (!false) = true then A else B := by simpa using q
theorem k_raise {E : XK} {c : Value} (q : E c none H) : tRaise E c D σ H := q
theorem k_iteD {p A B : Prop} [Decidable p] (h1 : p → A) (h2 : ¬ p → B) : if decide p = true then A else B := by
  by_cases h : p
  · rw [if_pos (decide_eq_true h)]; exact h1 h
  · rw [if_neg (by simpa using h)]; exact h2 h
theorem k_iteN {p A B : Prop} [Decidable p] (h1 : ¬ p → A) (h2 : p → B) : if (!decide p) = true then A else B := by
  by_cases h : p
  · rw [if_neg (by simpa using h)]; exact h2 h
  · rw [if_pos (by simpa using h)]; exact h1 h
theorem k_iteB {b : Bool} {A B : Prop} (h1 : b = true → A) (h2 : b = false → B) : if b = true then A else B := by
  cases b
  · rw [if_neg (by decide)]; exact h2 rfl
  · exact h1 rfl
theorem k_sq {a : Addr} {xs : List V} (h : H a = some (.lst xs)) : SqL K H a xs := Or.inl (Or.inl h)
theorem k_st {a : Addr} {xs : List V} (h : H a = some (.tup xs)) : SqT K H a xs := Or.inl (Or.inl h)
theorem k_while (W : Nat → L2.St → Hp → Prop) (m0 : Nat) (h0 : W m0 σ H)
    (hs : ∀ m σ H, W m σ H → t σ H fun b H1 => if b = true then ∃ N : L2.St → Hp → Prop, (∀ σ' H', N σ' H' → ∃ m', m' < m ∧ W m' σ' H') ∧
      t1 { D with nx := N, ct := N, bk := D.nx } σ H1 else D.nx σ H1) : tWhile t t1 D σ H := ⟨W, ⟨m0, h0⟩, hs⟩
/-- what a loop asks, by a word of its turns -/
def forK (g : TG) (tb : TS) (D : Ends) (σ : L2.St) : It → Hp → Prop := fun J H1 =>
  ∃ W : Nat → Nat → L2.St → Hp → Prop, (∃ m, W 0 m σ H1) ∧
    ∀ i m σ H, W i m σ H → (J.stop i H ∧ D.nx σ H) ∨ (J.go i H ∧
      ∃ N : L2.St → Hp → Prop, (∀ σ' H', N σ' H' → ∃ m', m' < m ∧ W (i + 1) m' σ' H') ∧
        ∀ x H', J.yld i H x H' → g x σ H' fun σ2 H2 => tb { D with nx := N, ct := N, bk := D.nx } σ2 H2)
theorem k_for {wi : TI} {g : TG} {tb : TS} (q : wi σ H (forK g tb D σ)) : tFor wi g tb D σ H := q
theorem k_rng1 {ta : TA} {R : It → Hp → Prop} (q : ta σ H fun vs H1 => ∃ j : Int, vs = [.int j] ∧
  -(2 ^ 62) ≤ j ∧ j < 2 ^ 62 ∧ R (Itr 0 j.toNat) H1) : iRng1 ta σ H R := q
theorem k_rng2 {ta : TA} {R : It → Hp → Prop} (q : ta σ H fun vs H1 => ∃ i j : Int, vs = [.int i, .int j] ∧
  (-(2 ^ 62) ≤ i ∧ i < 2 ^ 62 ∧ -(2 ^ 62) ≤ j ∧ j < 2 ^ 62) ∧ R (Itr i (j - i).toNat) H1) : iRng2 ta σ H R := q
theorem k_ilist {tl : TE} {R : It → Hp → Prop} (q : tl σ H fun x H1 => ∃ a, x = .ref a ∧
  (∃ xs, SqL K H1 a xs) ∧ R (Itl K a) H1) : iList K tl σ H R := q
theorem k_itup {tl : TE} {R : It → Hp → Prop} (q : tl σ H fun x H1 => ∃ a, x = .ref a ∧
  (∃ xs, SqT K H1 a xs) ∧ R (Itt K a) H1) : iTup K tl σ H R := q
theorem forK_range {g : TG} {tb : TS} {n : Nat} (Pv : Nat → L2.St → Hp → Prop) (h0 : Pv 0 σ H)
    (hs : ∀ (i : Nat) σ' H', i < n → Pv i σ' H' → g (.int (i : Int)) σ' H' fun σ2 H2 => tb { D with nx := Pv (i + 1), ct := Pv (i + 1), bk := D.nx } σ2 H2)
    (hd : ∀ σ' H', Pv n σ' H' → D.nx σ' H') : forK g tb D σ (Itr 0 n) H := by
  refine for_range (lo := 0) (n := n) Pv h0 (fun i σ' H' hi p => ?_) hd
  have e0 : (0 : Int) + (i : Int) = (i : Int) := Int.zero_add _
  rw [e0]
  exact hs i σ' H' hi p
theorem forK_list {g : TG} {tb : TS} {a : Addr} {xs : List V} (Pv : Nat → L2.St → Hp → Prop) (h0 : Pv 0 σ H)
    (hl : ∀ i σ' H', i ≤ xs.length → Pv i σ' H' → SqL K H' a xs)
    (hs : ∀ i x σ' H', xs[i]? = some x → Pv i σ' H' → g x σ' H' fun σ2 H2 => tb { D with nx := Pv (i + 1), ct := Pv (i + 1), bk := D.nx } σ2 H2)
    (hd : ∀ σ' H', Pv xs.length σ' H' → D.nx σ' H') : forK g tb D σ (Itl K a) H := for_list Pv h0 hl hs hd
end
section
variable {σ : L2.St} {H : Hp} {Q : VK} {ta te : TE} {K : PySem.W.Frag}
theorem k_bm {T : String} {r : V → List V → Hp → VK → Prop} {t : TA} (q : ta σ H fun x H1 => tyV K T x H1 ∧
  t σ H1 fun xs H2 => r x xs H2 Q) : tBM K T r ta t σ H Q := q
theorem k_bm0 {T : String} {r : V → List V → Hp → VK → Prop} (q : ta σ H fun x H1 => tyV K T x H1 ∧ r x [] H1 Q) : tBM0 K T r ta σ H Q := q
theorem k_tyl {l : Addr} {xs : List V} {P : Prop} (h : SqL K H l xs) (q : P) : tyV K "list" (.ref l) H ∧ P := ⟨Or.inl ⟨rfl, xs, h⟩, q⟩
theorem k_rApp {l : Addr} {xs : List V} {y : V} (h : H l = some (.lst xs)) (z : xs.length < sizeLine) (q : Q .non (upd H l (.lst (xs ++ [y])))) : rAppend (.ref l) [y] H Q := ⟨l, xs, y, rfl, rfl, h, z, q⟩
theorem k_sizeL {α : Type} {xs : List α} {f : α → V} (h : xs.length ≤ 100000) : (xs.map f).length < sizeLine := by
  rw [List.length_map]; exact Nat.lt_of_le_of_lt h (by decide)
end
section
variable {σ : L2.St} {H : Hp} {t u : TS} {D : Ends}
theorem k_cut (Mid : L2.St → Hp → Prop) (h : t { D with nx := Mid } σ H) (r : ∀ σ' H', Mid σ' H' → u D σ' H') : Evl.tCut t u D σ H := ⟨Mid, h, r⟩
end
theorem tr_step {H H' : Hp} {a : Addr} {o : HO} (e : Ex H H') (h : H a = some o) : H' a = some o := e a o h
section
variable {X : Cx} {CX : CXT} {k : Nat} {f C : Addr} {fd : FuncData} {ps : List Str} {sp : Sp} {E : XK}
/-- x op y, both instances of the class at C -/
def rMine (C : Addr) (sp : Sp) (E : XK) : R2 := fun x y H Q => ∃ a dx fs b dy gs,
  x = V.ref a ∧ y = V.ref b ∧ H a = some (HO.ins C dx fs) ∧ H b = some (HO.ins C dy gs) ∧ sp [x, y] H Q E
def rMine1 (C : Addr) (sp : Sp) (E : XK) : V → Hp → VK → Prop := fun x H Q => ∃ a dx fs,
  x = V.ref a ∧ H a = some (HO.ins C dx fs) ∧ sp [x] H Q E
theorem back_of {z : V} {u : Value} {s' : Shared} {R : Value → Shared → Prop} (r : RelV z u) (q : R u s') : PySem.W.CmpBack R u s' := by
  cases z with
  | non => cases r; exact q
  | bl b => cases r; exact q
  | int i => obtain ⟨t, rfl⟩ := r; exact q
  | str i => obtain ⟨t, rfl⟩ := r; exact q
  | byt i => obtain ⟨t, rfl⟩ := r; exact q
  | flt i => obtain ⟨t, rfl⟩ := r; exact q
  | ref a => cases r; exact q
  | ty n => cases r; exact q
theorem op_mine {op : Operator} (hc : PySem.W.selfFirst X.K C = true) (hm : Meth X.K C (PySem.dunder op.info.2) f) (F : FnOk X.prog X.w X.K X.mg X.base CX k f fd ps sp) (hr : Room k X.A) (hb : Binds X.K fd ps []) (hx : Passes CX X E) :
    OpR X (binaryOp op) (rMine C sp E) := by
  rintro pins s σ H x y v u Q I rx ry ⟨a, dx, fs, b, dy, gs, rfl, rfl, ha, hb', q⟩
  cases (show v = Value.ref a from rx)
  cases (show u = Value.ref b from ry)
  obtain ⟨mA, O, _⟩ := ins_get I.hok ha
  obtain ⟨mB, O', _⟩ := ins_get I.hok hb'
  obtain ⟨od, J, _⟩ := O.look
  obtain ⟨od', J', _⟩ := O'.look
  obtain ⟨m, hF⟩ := I.fr
  refine PySem.W.binop_K hF I.ok.mod.kin J J'.type hc hm.at_ hm.fn ?_
  refine wpAny_mono (run_fn (us := [.ref a, .ref b]) (vs := [.ref a, .ref b]) (dvs := []) (ds := []) F hr hb .nil hx I (.cons rfl (.cons rfl .nil)) q) ?_ (fun _ _ z => z)
  rintro u' s' ⟨z, H', I', rz, qz⟩
  exact back_of (R := EP X pins σ Q) rz ⟨z, H', I', rz, qz⟩
theorem un_mine (hm : Meth X.K C "__neg__" f) (F : FnOk X.prog X.w X.K X.mg X.base CX k f fd ps sp) (hr : Room k X.A) (hb : Binds X.K fd ps []) (hx : Passes CX X E) :
    UnR X (unaryOp .USub) (rMine1 C sp E) := by
  rintro pins s σ H x v Q I rx ⟨a, dx, fs, rfl, ha, q⟩
  cases (show v = Value.ref a from rx)
  obtain ⟨mA, O, _⟩ := ins_get I.hok ha
  obtain ⟨od, J, _⟩ := O.look
  obtain ⟨m, hF⟩ := I.fr
  refine PySem.W.ksp_neg hF I.ok.mod.kin J hm.at_ hm.fn ?_
  exact run_fn (us := [.ref a]) (vs := [.ref a]) (dvs := []) (ds := []) F hr hb .nil hx I (.cons rfl .nil) q
end
/-! small facts -/
theorem get_int {ns : List Int} {i : Nat} {y : V} (h : (ns.map V.int)[i]? = some y) : ∃ z, ns[i]? = some z ∧ y = .int z := by
  rw [List.getElem?_map] at h
  cases e : ns[i]? with
  | none => rw [e] at h; cases h
  | some z => rw [e] at h; exact ⟨z, rfl, (Option.some.inj h).symm⟩
theorem at_int {ns : List Int} {k : Int} (h0 : 0 ≤ k) (h1 : k < ns.length) : ∃ z, ns[k.toNat]? = some z ∧ atI (ns.map V.int) k = some (.int z) := by
  have hk : k.toNat < ns.length := by omega
  refine ⟨ns[k.toNat], by simp [hk], ?_⟩
  have e : ((k.toNat : Nat) : Int) = k := by omega
  have z : atI (ns.map V.int) ((k.toNat : Nat) : Int) = some (V.int ns[k.toNat]) := atI_nat (by simp [hk])
  rw [e] at z
  exact z
theorem ex_of {H H' : Hp} (e : H' = H) : Ex H H' := by rw [e]; exact Evl.Ex.refl H
theorem ex_upd {H : Hp} {p : Addr} {o : HO} (h : H p = none) : Ex H (upd H p o) := Evl.Ex.new h
theorem two_le : ∀ a b : V, [a, b].length ≤ sizeLine := fun _ _ => by show 2 ≤ sizeLine; decide
end Mine
namespace Mine
open PySem PySem.Spec PyProof.Rows L2
open PySem.W (Frag)
/-! the facts of the head: a list of tests of the written part, and the defs -/
def obsM (fs : List (Frag → Bool)) (fn : List He5.DefA) (K : Frag) : He.AlD :=
  ((fs.all fun f => f K) && fn.all fun d => d.ok K, fn.map fun d => He5.fnA K (d.at_ K))
def SaysM (fs : List (Frag → Bool)) (fn : List He5.DefA) (K : Frag) : Prop := obsM fs fn K = He5.valA fn
def obsMG (n : Nat) (fs : List (Frag → Bool)) (fn : List He5.DefA) (g : Addr → Option Obj) : He.AlD := obsM fs fn (He.frG g (He5.asA g n))
def hookM (n : Nat) (fs : List (Frag → Bool)) (fn : List He5.DefA) : PySem.W.Hook where
  α := He.AlD
  obs s := obsMG n fs fn s.heap.get?
  val _ := He5.valA fn
  says _ h := ∃ K : Frag, K.In h ∧ SaysM fs fn K
  of _ _ e := ⟨_, He.frG_in, e⟩
  keeps _ _ _ := fun ⟨K, hK, c⟩ k => ⟨K, PySem.W.Frag.In.keeps hK k, c⟩
theorem obsMG_eq {n : Nat} {fs : List (Frag → Bool)} {fn : List He5.DefA} {g : Addr → Option Obj} {s : Shared} (h : ∀ a, g a = s.heap.get? a) :
    obsMG n fs fn g = (hookM n fs fn).obs s := by
  have e : g = s.heap.get? := funext h
  subst e
  rfl
theorem SaysM.fact {fs : List (Frag → Bool)} {fn : List He5.DefA} {K : Frag} (c : SaysM fs fn K) (i : Nat) {f : Frag → Bool} (h : fs[i]? = some f) : f K = true := by
  have c1 : ((fs.all fun f => f K) && fn.all fun d => d.ok K) = true := congrArg (fun z : He.AlD => z.1) c
  exact List.all_eq_true.mp (Bool.and_eq_true_iff.mp c1).1 f (List.mem_of_getElem? h)
theorem SaysM.dfn {fs : List (Frag → Bool)} {fn : List He5.DefA} {K : Frag} (c : SaysM fs fn K) (i : Nat) {d : He5.DefA} (h : fn[i]? = some d) :
    ∃ fd, FunD K d.name d.qual d.params d.body d.scope (d.dvs K) (d.kws K) (d.at_ K) fd := by
  have c1 : ((fs.all fun f => f K) && fn.all fun d => d.ok K) = true := congrArg (fun z : He.AlD => z.1) c
  have c2 := List.all_eq_true.mp (Bool.and_eq_true_iff.mp c1).2 d (List.mem_of_getElem? h)
  have e : (fn.map fun d => He5.fnA K (d.at_ K)) = fn.map He5.DefA.val := congrArg (fun z : He.AlD => z.2) c
  have e2 := congrArg (fun l => l[i]?) e
  simp only [List.getElem?_map, h, Option.map_some, Option.some.injEq] at e2
  exact He5.DefA.funD e2 c2
end Mine
namespace Mine
open PySem PySem.Spec PyProof.Rows L2
theorem fd_same {K : PySem.W.Frag} {x q x' q' : Str} {a a' : Arguments} {b b' : List Stmt} {c c' : Scope} {d d' : List V} {k k' : List (Str × V)} {f : Addr} {fd fd' : FuncData} (F : FunD K x q a b c d k f fd) (G : FunD K x' q' a' b' c' d' k' f fd') : fd = fd' := by
  obtain ⟨_, _, _, _, _, _, _, _, _, _, _, l, _⟩ := F.ex
  obtain ⟨_, _, _, _, _, _, _, _, _, _, _, l', _⟩ := G.ex
  have e := Option.some.inj (l.symm.trans l')
  injection e with _ _ e
  injection e
end Mine
namespace Mine
open PySem PySem.Spec PyProof.Rows L2
def propG (K : PySem.W.Frag) (C f : Str) : Addr := match PySem.W.recIn K (He.ma K (He.ga K C) f) "property" with
  | some (.ref g :: _) => g
  | _ => 0
def propB (K : PySem.W.Frag) (C f : Str) : Bool :=
  He.eqO (PySem.W.findIn K (.ref (He.ga K C)) f) (some (some (.ref (He.ma K (He.ga K C) f)))) &&
  (He.eqO (PySem.W.specialIn K (.ref (He.ma K (He.ga K C) f)) "__get__") (some (some (.builtin "property.__get__"))) &&
  (decide (PySem.W.takesIn K (.ref (He.ma K (He.ga K C) f)) = some true) &&
  match PySem.W.recIn K (He.ma K (He.ga K C) f) "property" with
  | some (.ref _ :: _) => true
  | _ => false))
theorem prop_ok {K : PySem.W.Frag} {C f : Str} (h : propB K C f = true) : PropOf K (He.ga K C) f (He.ma K (He.ga K C) f) (propG K C f) := by
  unfold propB at h
  rw [Bool.and_eq_true, Bool.and_eq_true, Bool.and_eq_true] at h
  obtain ⟨h1, h2, h3, h4⟩ := h
  refine ⟨He.eqO_ok h1, He.eqO_ok h2, of_decide_eq_true h3, ?_⟩
  unfold propG
  split at h4
  · rename_i g rest e
    rw [e]; exact ⟨_, rfl⟩
  · cases h4
def inscB (K : PySem.W.Frag) (C : Str) : Bool :=
  (He.Fa.cls C).ok K && (He.eqO (PySem.W.findIn K (.ref (He.ga K C)) "__class__") (some (some (.builtin "object.__class__"))) &&
  (He.eqO (PySem.W.specialIn K (.builtin "object.__class__") "__get__") (some (some (.builtin "getset_descriptor.__get__"))) &&
  (decide (PySem.W.takesIn K (.builtin "object.__class__") = some true) && (decide (PySem.W.mroIn K (He.ga K C) (.type "object") = some true) &&
  decide (PySem.W.kitOne K (.ref (He.ga K C)) (.ref (He.ga K C)) = some true)))))
theorem insc_ok {K : PySem.W.Frag} {C : Str} (h : inscB K C = true) : C8.InsC K (He.ga K C) := by
  unfold inscB at h
  rw [Bool.and_eq_true, Bool.and_eq_true, Bool.and_eq_true, Bool.and_eq_true, Bool.and_eq_true] at h
  obtain ⟨h1, h2, h3, h4, h5, h6⟩ := h
  exact ⟨He.cls_ok h1, He.eqO_ok h2, He.eqO_ok h3, of_decide_eq_true h4, of_decide_eq_true h5, of_decide_eq_true h6⟩
end Mine
namespace Mine
open PySem L2
theorem cls_ty (T : String) : ClsV (.ty T) (.type T) := .ty T
theorem k_isiII {K : PySem.W.Frag} {H : Hp} {Q : VK} {i : Int} (q : Q (.bl true) H) : rIsi K [.int i, .ty "int"] H Q :=
  k_isi (cls_ty "int") (.base (.int i)) (kit_ty (b := "int") (r := true) (by decide +kernel)) q
theorem k_isiIB {K : PySem.W.Frag} {H : Hp} {Q : VK} {i : Int} (q : Q (.bl false) H) : rIsi K [.int i, .ty "bool"] H Q :=
  k_isi (cls_ty "bool") (.base (.int i)) (kit_ty (b := "bool") (r := false) (by decide +kernel)) q
theorem k_isiBB {K : PySem.W.Frag} {H : Hp} {Q : VK} {b : Bool} (q : Q (.bl true) H) : rIsi K [.bl b, .ty "bool"] H Q :=
  k_isi (cls_ty "bool") (.base (.bl b)) (kit_ty (b := "bool") (r := true) (by decide +kernel)) q
/-- the plain form of top / 2 ** power -/
def plainZ : Int → Nat → Int × Int
  | t, 0 => (t, 0)
  | t, n + 1 => if t % 2 = 0 then plainZ (t / 2) n else (t, ((n + 1 : Nat) : Int))
theorem plainZ_zero (t : Int) : plainZ t 0 = (t, 0) := rfl
theorem plainZ_even {t : Int} {n : Nat} (h : t % 2 = 0) : plainZ t (n + 1) = plainZ (t / 2) n := by
  show (if t % 2 = 0 then _ else _) = _
  rw [if_pos h]
theorem plainZ_odd {t : Int} {n : Nat} (h : ¬ t % 2 = 0) : plainZ t (n + 1) = (t, ((n + 1 : Nat) : Int)) := by
  show (if t % 2 = 0 then _ else _) = _
  rw [if_neg h]
theorem plainZ_le : ∀ (t : Int) (n : Nat), 0 ≤ (plainZ t n).2 ∧ (plainZ t n).2 ≤ n
  | t, 0 => by simp [plainZ]
  | t, n + 1 => by
    have ih := plainZ_le (t / 2) n
    by_cases h : t % 2 = 0
    · rw [plainZ_even h]; omega
    · rw [plainZ_odd h]; simp only; omega
/-- the plain form, in words: an even top stands with power 0 alone -/
theorem plainZ_plain : ∀ (t : Int) (n : Nat), (plainZ t n).2 = 0 ∨ ¬ (plainZ t n).1 % 2 = 0
  | t, 0 => Or.inl rfl
  | t, n + 1 => by
    by_cases h : t % 2 = 0
    · rw [plainZ_even h]; exact plainZ_plain _ _
    · rw [plainZ_odd h]; exact Or.inr h
/-- the value: t * 2 ^ p = top * 2 ^ n -/
theorem plainZ_val : ∀ (t : Int) (n : Nat), (plainZ t n).1 * 2 ^ n = t * 2 ^ (plainZ t n).2.toNat
  | t, 0 => by simp [plainZ]
  | t, n + 1 => by
    by_cases h : t % 2 = 0
    · rw [plainZ_even h]
      have ih := plainZ_val (t / 2) n
      have e : t = 2 * (t / 2) := by omega
      rw [Int.pow_succ, ← Int.mul_assoc, ih]
      generalize (plainZ (t / 2) n).2.toNat = k
      generalize t / 2 = u at e
      rw [e, Int.mul_comm (u * 2 ^ k) 2, Int.mul_assoc]
    · rw [plainZ_odd h]; rfl
/-- one plain form a number -/
theorem plain_one {t u : Int} {p q : Nat} (ht : p = 0 ∨ ¬ t % 2 = 0) (hu : q = 0 ∨ ¬ u % 2 = 0) (e : t * 2 ^ q = u * 2 ^ p) : t = u ∧ p = q := by
  have key : ∀ {t u : Int} {p q : Nat}, (q = 0 ∨ ¬ u % 2 = 0) → t * 2 ^ q = u * 2 ^ p → ¬ p < q := by
    intro t u p q hu e h
    have e1 : q = (q - p - 1) + 1 + p := by omega
    rw [e1, Int.pow_add, ← Int.mul_assoc] at e
    have e2 := Int.eq_of_mul_eq_mul_right (Int.ne_of_gt (Int.pow_pos (by decide))) e
    rw [Int.pow_succ, ← Int.mul_assoc] at e2
    omega
  have h1 := key hu e
  have h2 := key ht e.symm
  have h3 : p = q := by omega
  subst h3
  exact ⟨Int.eq_of_mul_eq_mul_right (Int.ne_of_gt (Int.pow_pos (by decide))) e, rfl⟩
/-- two numbers by any of their forms -/
theorem scale (a c : Int) (b d : Nat) : ∃ S : Int, 0 < S ∧ ∃ S' : Int, 0 < S' ∧ (plainZ a b).1 * 2 ^ (plainZ c d).2.toNat * S = a * 2 ^ d * S' ∧ (plainZ c d).1 * 2 ^ (plainZ a b).2.toNat * S = c * 2 ^ b * S' := by
  have v1 := plainZ_val a b
  have v2 := plainZ_val c d
  generalize plainZ a b = x at *
  generalize plainZ c d = y at *
  refine ⟨2 ^ b * 2 ^ d, Int.mul_pos (Int.pow_pos (by decide)) (Int.pow_pos (by decide)), 2 ^ x.2.toNat * 2 ^ y.2.toNat, Int.mul_pos (Int.pow_pos (by decide)) (Int.pow_pos (by decide)), ?_, ?_⟩
  · generalize (2 : Int) ^ y.2.toNat = Y at *
    generalize (2 : Int) ^ x.2.toNat = X at *
    generalize (2 : Int) ^ b = B at *
    generalize (2 : Int) ^ d = D at *
    have : x.1 * Y * (B * D) = (x.1 * B) * (Y * D) := by ac_rfl
    rw [this, v1]; ac_rfl
  · generalize (2 : Int) ^ y.2.toNat = Y at *
    generalize (2 : Int) ^ x.2.toNat = X at *
    generalize (2 : Int) ^ b = B at *
    generalize (2 : Int) ^ d = D at *
    have : y.1 * X * (B * D) = (y.1 * D) * (X * B) := by ac_rfl
    rw [this, v2]; ac_rfl
theorem lt_forms (a c : Int) (b d : Nat) : ((plainZ a b).1 * 2 ^ (plainZ c d).2.toNat < (plainZ c d).1 * 2 ^ (plainZ a b).2.toNat) ↔ (a * 2 ^ d < c * 2 ^ b) := by
  obtain ⟨S, hS, S', hS', e1, e2⟩ := scale a c b d
  constructor
  · intro h
    have h1 := Int.mul_lt_mul_of_pos_right h hS
    rw [e1, e2] at h1
    exact Int.lt_of_mul_lt_mul_right h1 (Int.le_of_lt hS')
  · intro h
    have h1 := Int.mul_lt_mul_of_pos_right h hS'
    rw [← e1, ← e2] at h1
    exact Int.lt_of_mul_lt_mul_right h1 (Int.le_of_lt hS)
theorem eq_forms (a c : Int) (b d : Nat) : ((plainZ a b).1 = (plainZ c d).1 ∧ (plainZ a b).2 = (plainZ c d).2) ↔ (a * 2 ^ d = c * 2 ^ b) := by
  obtain ⟨S, hS, S', hS', e1, e2⟩ := scale a c b d
  have w1 := plainZ_le a b
  have w2 := plainZ_le c d
  constructor
  · rintro ⟨h1, h2⟩
    have h3 : (plainZ a b).1 * 2 ^ (plainZ c d).2.toNat * S = (plainZ c d).1 * 2 ^ (plainZ a b).2.toNat * S := by rw [h1, h2]
    rw [e1, e2] at h3
    exact Int.eq_of_mul_eq_mul_right (Int.ne_of_gt hS') h3
  · intro h
    rw [h, ← e2] at e1
    have h1 := Int.eq_of_mul_eq_mul_right (Int.ne_of_gt hS) e1
    have p1 := plainZ_plain a b
    have p2 := plainZ_plain c d
    have r := plain_one (p := (plainZ a b).2.toNat) (q := (plainZ c d).2.toNat) (by omega) (by omega) h1
    exact ⟨r.1, by omega⟩
theorem bitAnd_one (x : Int) : Builtin.bitAnd x 1 = x % 2 := by
  exact PyProof.Rows.bitAnd_m1 x
end Mine
namespace Mine
open PySem PySem.Spec PyProof.Rows L2
open Evl (Ex)
/-- what of the class Dyadic's text is needed -/
structure FDyadic (K : PySem.W.Frag) : Prop where
  cl : Cls K (He.ga K "Dyadic")
  nt : NoAttr K (He.ga K "Dyadic") "_top"
  np : NoAttr K (He.ga K "Dyadic") "_power"
theorem ktp : ¬ (("_top" : Str) = "_power") := by decide +kernel
/-- its attributes -/
def dfs (t p : Int) : List (Str × V) := putF "_power" (.int p) (putF "_top" (.int t) [])
theorem dfs_top (t p : Int) : (dfs t p).lookup ("_top" : Str) = some (.int t) := by
  unfold dfs
  rw [lookup_putF, if_neg ktp, lookup_putF, if_pos rfl]
theorem dfs_power (t p : Int) : (dfs t p).lookup ("_power" : Str) = some (.int p) := by
  unfold dfs
  rw [lookup_putF, if_pos rfl]
theorem dfs_no (t p : Int) {m : Str} (h1 : ¬ m = "_power") (h2 : ¬ m = "_top") : (dfs t p).lookup m = none := by
  unfold dfs
  rw [lookup_putF, if_neg h1, lookup_putF, if_neg h2]
  all_goals rfl
theorem dfs_len (t p : Int) : (dfs t p).length < 1000 := by
  have h := length_putF "_power" (V.int p) (putF "_top" (V.int t) [])
  have h2 := length_putF "_top" (V.int t) []
  simp only [List.length_nil] at h2
  unfold dfs; omega
def okTop (a b : Int) : Prop := (-1000000000000 ≤ a ∧ a ≤ 1000000000000) ∧ 0 ≤ b ∧ b ≤ 40
/-- a Dyadic stands at a: its plain form's top and power -/
def DyAt (K : PySem.W.Frag) (H : Hp) (a : Addr) (t p : Int) : Prop := ∃ dx, H a = some (.ins (He.ga K "Dyadic") dx (dfs t p))
theorem DyAt.ex {K : PySem.W.Frag} {H H' : Hp} {a : Addr} {t p : Int} (h : DyAt K H a t p) (e : Ex H H') : DyAt K H' a t p :=
  let ⟨dx, q⟩ := h
  ⟨dx, e _ _ q⟩
theorem dy_inj {K : PySem.W.Frag} {H : Hp} {a : Addr} {t p t' p' : Int} (h : DyAt K H a t p) (h' : DyAt K H a t' p') : t = t' ∧ p = p' := by
  obtain ⟨dx, h⟩ := h
  obtain ⟨dx', h'⟩ := h'
  have e := Option.some.inj (h.symm.trans h')
  injection e with _ _ e
  have e1 := congrArg (fun l => List.lookup ("_top" : Str) l) e
  have e2 := congrArg (fun l => List.lookup ("_power" : Str) l) e
  simp only [dfs_top, dfs_power, Option.some.injEq, V.int.injEq] at e1 e2
  exact ⟨e1, e2⟩
theorem dy_tr {K : PySem.W.Frag} {H H' : Hp} {a : Addr} {t p : Int} (e : Ex H H') (h : DyAt K H a t p) : DyAt K H' a t p := h.ex e
theorem dy_prop {K : PySem.W.Frag} {H : Hp} {a : Addr} {t p : Int} {P : Addr → Prop} (h : DyAt K H a t p) (q : P a) :
    ∃ b dx fs, V.ref a = V.ref b ∧ H b = some (HO.ins (He.ga K "Dyadic") dx fs) ∧ P b :=
  let ⟨dx, e⟩ := h
  ⟨a, dx, _, rfl, e, q⟩
theorem dy_isC {K : PySem.W.Frag} {H : Hp} {Q : VK} {a : Addr} {t p : Int} (h : DyAt K H a t p) (q : Q (.bl true) H) : rIsC (He.ga K "Dyadic") [.ref a, .ref (He.ga K "Dyadic")] H Q :=
  let ⟨dx, e⟩ := h
  ⟨a, dx, _, rfl, e, q⟩
/-- x.m(..): what a method call asks of a Dyadic -/
theorem dy_meth {K : PySem.W.Frag} {H : Hp} {a : Addr} {t p : Int} {m : Str} {P : Prop} (h : DyAt K H a t p) (h1 : ¬ m = "_power") (h2 : ¬ m = "_top") (q : P) :
    ∃ b dx fs, V.ref a = V.ref b ∧ H b = some (HO.ins (He.ga K "Dyadic") dx fs) ∧ fs.lookup m = none ∧ P :=
  let ⟨dx, e⟩ := h
  ⟨a, dx, _, rfl, e, dfs_no _ _ h1 h2, q⟩
end Mine
namespace Mine
open PySem PySem.Spec PyProof.Rows L2
/-! dicts whose keys are pairs of tuples of ints and whose values are ints -/
abbrev Pr := List Int × List Int
def keyOf (p : Pr) : NestedKey := .tup [.tup (p.1.map .num), .tup (p.2.map .num)]
theorem nums_inj : ∀ {a b : List Int}, a.map NestedKey.num = b.map NestedKey.num → a = b
  | [], [], _ => rfl
  | [], _ :: _, e => by simp at e
  | _ :: _, [], e => by simp at e
  | x :: xs, y :: ys, e => by
    rw [List.map_cons, List.map_cons] at e
    injection e with e1 e2
    injection e1 with e1
    rw [e1, nums_inj e2]
theorem keyOf_inj {p q : Pr} (h : keyOf p = keyOf q) : p = q := by
  unfold keyOf at h
  injection h with h
  injection h with h1 h2
  injection h2 with h2 _
  injection h1 with h1
  injection h2 with h2
  exact Prod.ext (nums_inj h1) (nums_inj h2)
theorem nums_flat : ∀ l : List Int, NestedKey.depthAll (l.map .num) = 0
  | [] => rfl
  | x :: l => by
    rw [List.map_cons, NestedKey.depthAll, nums_flat l]
    rfl
theorem keyOf_deep (p : Pr) : (keyOf p).depth ≤ 8 := by
  unfold keyOf
  simp only [NestedKey.depth, NestedKey.depthAll, nums_flat]
  decide
/-- the tuple at b is the pair p of tuples of ints -/
def PrT (H : Hp) (b : Addr) (p : Pr) : Prop := ∃ c d, H b = some (.tup [.ref c, .ref d]) ∧ H c = some (.tup (p.1.map V.int)) ∧ H d = some (.tup (p.2.map V.int))
theorem PrT.ex {H H' : Hp} {b : Addr} {p : Pr} (t : PrT H b p) (k : ∀ c xs, H c = some (.tup xs) → H' c = some (.tup xs)) : PrT H' b p :=
  let ⟨c, d, h1, h2, h3⟩ := t
  ⟨c, d, k _ _ h1, k _ _ h2, k _ _ h3⟩
theorem nested_ints {h : Heap} : ∀ {ns : List Int} {us : List Value}, Vals (ns.map V.int) us → NestedAll h (ns.map .num) us
  | [], _, r => by rw [List.map_nil] at r; cases r; exact .nil
  | n :: ns, _, r => by
    rw [List.map_cons] at r
    cases r with
    | cons h t =>
      obtain ⟨tk, rfl⟩ := h
      exact .cons (.int n tk) (nested_ints t)
section
variable {P : Program} {w : World} {H : Hp} {h : Heap} {a b : Addr} {p : Pr}
theorem nested_tup {ns : List Int} (ok : HOk P w H h) (e : H a = some (.tup (ns.map V.int))) : NestedIs h (.tup (ns.map .num)) (.ref a) := by
  obtain ⟨_, its, r, o, h1, h2, n, h3⟩ := (show ObjOk P w H h a (.tup (ns.map V.int)) from ok a _ e)
  exact .tup h1 h2 h3 (by simpa using nested_ints r)
theorem PrT.key (t : PrT H b p) (ok : HOk P w H h) : (nestedKind P w).is h (keyOf p) b := by
  obtain ⟨c, d, e, ec, ed⟩ := t
  refine ⟨?_, keyOf_deep p⟩
  obtain ⟨_, its, r, o, h1, h2, n, h3⟩ := (show ObjOk P w H h b (.tup [.ref c, .ref d]) from ok b _ e)
  cases r with
  | cons r1 t1 =>
    cases t1 with
    | cons r2 t2 =>
      cases t2
      cases r1
      cases r2
      exact .tup h1 h2 h3 (.cons (nested_tup ok ec) (.cons (nested_tup ok ed) .nil))
end
abbrev Ent := Pr × Addr × Int
abbrev NP : List Ent → List (NestedKey × Addr × Value) → Prop := Paired fun p q => q.1 = keyOf p.1 ∧ q.2.1 = p.2.1 ∧ ∃ t, q.2.2 = Value.int p.2.2 t
def look (kvs : List Ent) (p : Pr) : Option Int := (kvs.find? fun e => decide (e.1 = p)).map (·.2.2)
theorem NP.look {kvs : List Ent} {xs : List (NestedKey × Addr × Value)} (r : NP kvs xs) (p : Pr) : RelO ((look kvs p).map V.int) ((atKey xs (keyOf p)).map (·.2)) := by
  induction r with
  | nil => exact True.intro
  | @cons e q es qs h t ih =>
    obtain ⟨h1, h2, tk, h3⟩ := h
    by_cases z : e.1 = p
    · have b : atKey (q :: qs) (keyOf p) = some q.2 := by simp [atKey, List.find?_cons, h1, z]
      have c : Mine.look (e :: es) p = some e.2.2 := by simp [Mine.look, List.find?_cons, z]
      rw [b, c]
      exact ⟨tk, h3⟩
    · have z' : ¬ q.1 = keyOf p := fun y => z (keyOf_inj (h1.symm.trans y))
      have b : atKey (q :: qs) (keyOf p) = atKey qs (keyOf p) := by simp [atKey, List.find?_cons, z']
      have c : Mine.look (e :: es) p = Mine.look es p := by simp [Mine.look, List.find?_cons, z]
      rw [b, c]
      exact ih
theorem NP.none_of {kvs : List Ent} {xs : List (NestedKey × Addr × Value)} (r : NP kvs xs) {p : Pr} (h : Mine.look kvs p = none) : atKey xs (keyOf p) = none := by
  have z := NP.look r p
  rw [h] at z
  cases q : atKey xs (keyOf p) with
  | none => rfl
  | some y => rw [q] at z; exact z.elim
theorem NP.len {kvs : List Ent} {xs : List (NestedKey × Addr × Value)} (r : NP kvs xs) : kvs.length = xs.length := Paired.length r
/-- what stands at a -/
def NdR (P : Program) (w : World) (h : Heap) (a : Addr) (kvs : List Ent) : Prop := kvs.length ≤ sizeLine ∧ (a == sysModules) = false ∧ ∃ xs : List (NestedKey × Addr × Value), NP kvs xs ∧
  ∃ o es ep, h.get? a = some o ∧ o.ExactDict ∧ o.data = .dict es ep ∧ es.toList = xs.map (entryOfKey (nestedKind P w)) ∧ (xs.map (·.1)).Nodup
def NdO (P : Program) (w : World) (a : Addr) (kvs : List Ent) : HO := .ext fun h => NdR P w h a kvs
def Keys (H : Hp) (kvs : List Ent) : Prop := ∀ e ∈ kvs, PrT H e.2.1 e.1
theorem NP.keys {P : Program} {w : World} {H : Hp} {h : Heap} (ok : HOk P w H h) {kvs : List Ent} {xs : List (NestedKey × Addr × Value)} (r : NP kvs xs) : (∀ e ∈ kvs, PrT H e.2.1 e.1) → ∀ x ∈ xs, (nestedKind P w).is h x.1 x.2.1 := by
  induction r with
  | nil => intro _ x hx; exact nomatch hx
  | @cons e q es qs hq t ih =>
    intro k x hx
    rcases List.mem_cons.mp hx with z | hx
    · subst z
      obtain ⟨h1, h2, _⟩ := hq
      rw [h1, h2]
      exact (k e List.mem_cons_self).key ok
    · exact ih (fun e' m => k e' (List.mem_cons_of_mem _ m)) x hx
theorem nd_at {P : Program} {w : World} {H : Hp} {h : Heap} {a : Addr} {kvs : List Ent} (ok : HOk P w H h) (e : H a = some (NdO P w a kvs)) (k : Keys H kvs) :
    kvs.length ≤ sizeLine ∧ (a == sysModules) = false ∧ ∃ xs, NP kvs xs ∧ h.DictOfH (nestedKind P w) a xs := by
  obtain ⟨z, y, xs, r, o, es, ep, h1, h2, h3, h4, h5⟩ := (ok a _ e).1
  exact ⟨z, y, xs, r, o, es, ep, h1, h2, h3, h4, NP.keys ok r k, h5⟩
theorem nd_new {P : Program} {w : World} {H : Hp} {h : Heap} {a : Addr} {kvs : List Ent} (R : NdR P w h a kvs) : ObjOk P w H h a (NdO P w a kvs) := by
  have ⟨_, _, _, _, o, _, _, ho, _⟩ := R
  refine ⟨R, ⟨o, ho⟩, fun h1 h2 p k => ?_⟩
  obtain ⟨z, y, xs, r, o, es, ep, g1, g⟩ := p
  exact ⟨z, y, xs, r, o, es, ep, k _ g1, g⟩
section
variable {X : Cx} {pins : List (Addr × Obj)} {σ : L2.St} {H : Hp} {s : Shared} {a b : Addr} {kvs : List Ent} {p : Pr} {A : Around} {E : Value → Shared → Prop}
theorem n_get {v : Int} {Q : Value → Shared → Prop} (hu : A.units + 9 < cLine) (I : Inv X pins σ H s) (e : H a = some (NdO X.prog X.w a kvs)) (k : Keys H kvs) (kb : PrT H b p) (l : look kvs p = some v)
    (h : ∀ w' s', Inv X pins σ H s' → RelV (.int v) w' → Q w' s') : wpAny (model X.prog X.w) A (getItem (.ref a) (.ref b)) Q E s := by
  obtain ⟨z, hd, xs, r, dd⟩ := nd_at I.hok e k
  have rl := NP.look r p
  rw [l] at rl
  cases q : atKey xs (keyOf p) with
  | none => rw [q] at rl; exact rl.elim
  | some y =>
    rw [q] at rl
    exact wpAny_getItem_heap (knd := nestedKind X.prog X.w) (show A.in1.units + 8 < cLine by rw [Around.in1_units]; omega) (kb.key I.hok) dd q (h y.2 _ (I.tok _) rl)
theorem n_notin {Q : Value → Shared → Prop} (hu : A.units + 9 < cLine) (I : Inv X pins σ H s) (e : H a = some (NdO X.prog X.w a kvs)) (k : Keys H kvs) (kb : PrT H b p)
    (h : ∀ s', Inv X pins σ H s' → Q (.bool (!(look kvs p).isSome)) s') : wpAny (model X.prog X.w) A (compareOp .NotIn (.ref b) (.ref a)) Q E s := by
  obtain ⟨z, hd, xs, r, dd⟩ := nd_at I.hok e k
  refine wpAny_notIn_heap (knd := nestedKind X.prog X.w) (show A.in1.units + 8 < cLine by rw [Around.in1_units]; omega) (kb.key I.hok) hd dd ?_
  have rl := NP.look r p
  have e2 : (atKey xs (keyOf p)).isSome = (look kvs p).isSome := by
    cases q : atKey xs (keyOf p) with
    | none =>
      cases q2 : look kvs p with
      | none => rfl
      | some v => rw [q, q2] at rl; exact rl.elim
    | some y =>
      cases q2 : look kvs p with
      | none => rw [q, q2] at rl; exact rl.elim
      | some v => rfl
  rw [e2]
  exact h _ (I.tok _)
theorem n_put {v : Int} {u : Value} {Q : Unit → Shared → Prop} (hu : A.units + 9 < cLine) (I : Inv X pins σ H s) (e : H a = some (NdO X.prog X.w a kvs)) (k : Keys H kvs) (kb : PrT H b p) (l : look kvs p = none) (hl : kvs.length < sizeLine) (ru : RelV (.int v) u)
    (h : ∀ s', Inv X pins σ (upd H a (NdO X.prog X.w a (kvs ++ [(p, b, v)]))) s' → Q () s') : wpAny (model X.prog X.w) A (setItem (.ref a) (.ref b) u) Q E s := by
  obtain ⟨z, hd, xs, r, dd⟩ := nd_at I.hok e k
  have hz : xs.length ≤ sizeLine := by rw [← NP.len r]; exact z
  have hn := NP.none_of r l
  refine wpAny_setItem_heap (hsz := hz) (knd := nestedKind X.prog X.w) (show A.in1.units + 8 < cLine by rw [Around.in1_units]; omega) (kb.key I.hok) dd fun h' dd' hs => h _ ?_
  rw [storedH_new hn] at dd'
  obtain ⟨q, es, ep, hq, h2, h3, h4, _, h5⟩ := dd'
  refine I.write (x := a) (e := a) (by rw [e]; exact True.intro) (.inl rfl) (fun c u hc y => (hs.2 c hc).trans y) ⟨q, hq⟩ (nd_new ⟨?_, hd, _, Paired.snoc r ⟨rfl, rfl, (show ∃ tk, u = Value.int v tk from ru)⟩, q, es, ep, hq, h2, h3, h4, h5⟩)
  rw [List.length_append, List.length_singleton]
  omega
end
/-! readings and rules -/
/-- d[k] -/
def tNGet (P : Program) (w : World) (td ty : TE) : TE := fun σ H Q => td σ H fun x H1 => ty σ H1 fun y H2 => ∃ a b kvs p v, x = V.ref a ∧ y = V.ref b ∧ H2 a = some (NdO P w a kvs) ∧ Keys H2 kvs ∧ PrT H2 b p ∧ look kvs p = some v ∧ Q (.int v) H2
/-- k not in d -/
def tNNot (P : Program) (w : World) (ty td : TE) : TE := fun σ H Q => ty σ H fun y H1 => td σ H1 fun x H2 => ∃ a b kvs p, x = V.ref a ∧ y = V.ref b ∧ H2 a = some (NdO P w a kvs) ∧ Keys H2 kvs ∧ PrT H2 b p ∧ Q (.bl (!(look kvs p).isSome)) H2
/-- d[k] = v, a new key -/
def sNPut (P : Program) (w : World) (td ty tv : TE) : TS := fun D σ H => tv σ H fun z H1 => td σ H1 fun x H2 => ty σ H2 fun y H3 => ∃ a b kvs p v, z = V.int v ∧ x = V.ref a ∧ y = V.ref b ∧ H3 a = some (NdO P w a kvs) ∧ Keys H3 kvs ∧ PrT H3 b p ∧ look kvs p = none ∧
  kvs.length < sizeLine ∧ D.nx σ (upd H3 a (NdO P w a (kvs ++ [(p, b, v)])))
/-- {k: v} -/
def tNDisp (P : Program) (w : World) (tk tv : TE) : TE := fun σ H Q => ∀ d, H d = none → tk σ (upd H d (NdO P w d [])) fun y H1 => tv σ H1 fun z H2 => ∃ b p v, y = V.ref b ∧ z = V.int v ∧ H2 d = some (NdO P w d []) ∧ PrT H2 b p ∧
  Q (.ref d) (upd H2 d (NdO P w d [(p, b, v)]))
section
variable {X : Cx} {o i e value : Expr} {pos pos' : Pos} {td ty tv tk : TE}
theorem nd_type {P : Program} {w : World} {s : Shared} {H : Hp} {a : Addr} {kvs : List Ent} (ok : HOk P w H s.heap) (e : H a = some (NdO P w a kvs)) : s.TypeIs (.ref a) "dict" := by
  obtain ⟨_, _, _, _, o, es, ep, h1, h2, _⟩ := (ok a _ e).1
  exact ⟨o, h1, h2.1⟩
theorem pe_nget (hu : X.A.units + 9 < cLine) (ho : PE X o td) (hi : PE X i ty) (hs : NoSl i) : PE X (.Subscript o i pos) (tNGet X.prog X.w td ty) := by
  refine ⟨fun pins s σ H Q I h => ?_⟩
  refine subD_of PySem.F.slot_dict_getitem.lookup hs (thn (ho.run pins s σ H _ I h) fun u s1 z1 => ?_)
  obtain ⟨x, H1, I1, rx, q1⟩ := z1
  refine thn (hi.run pins s1 σ H1 _ I1 q1) fun iv s2 z2 => ?_
  obtain ⟨y, H2, I2, ry, a, b, kvs, p, v, ex, ey, g, kk, kb, l, q2⟩ := z2
  subst ex ey
  obtain rfl : u = Value.ref a := rx
  obtain rfl : iv = Value.ref b := ry
  exact ⟨nd_type I2.hok g, n_get hu I2 g kk kb l fun w' s3 I3 rw' => ⟨.int v, H2, I3, rw', q2⟩⟩
theorem pc_nnot (hu : X.A.units + 9 < cLine) (hi : PE X i ty) (ho : PE X o td) : PC X .NotIn i o (tNNot X.prog X.w ty td) := by
  refine ⟨fun pins s σ H Q I h => ?_⟩
  refine thn (hi.run pins s σ H _ I h) fun iv s1 z1 => ?_
  obtain ⟨y, H1, I1, ry, q1⟩ := z1
  refine thn (ho.run pins s1 σ H1 _ I1 q1) fun u s2 z2 => ?_
  obtain ⟨x, H2, I2, rx, a, b, kvs, p, ex, ey, g, kk, kb, q2⟩ := z2
  subst ex ey
  obtain rfl : u = Value.ref a := rx
  obtain rfl : iv = Value.ref b := ry
  exact n_notin hu I2 g kk kb fun s3 I3 => ⟨.bl (!(look kvs p).isSome), H2, I3, rfl, q2⟩
theorem ps_nput (hu : X.A.units + 9 < cLine) (ho : PE X o td) (hi : PE X i ty) (hv : PE X value tv) (hs : swapsWith value (some (.Subscript o i pos')) pos.line X.env = pure false) :
    PS X (.Assign [.Subscript o i pos'] value pos) (sNPut X.prog X.w td ty tv) := by
  refine ⟨fun pins s σ H D I h => ?_⟩
  refine wpAny_Assign_Subscript (thn (hv.run pins s σ H _ I h) fun r s1 z1 => ?_) hs
  obtain ⟨z, H1, I1, rv, q1⟩ := z1
  refine thn (ho.run pins s1 σ H1 _ I1 q1) fun u s2 z2 => ?_
  obtain ⟨x, H2, I2, rx, q2⟩ := z2
  refine thn (hi.run pins s2 σ H2 _ I2 q2) fun iv s3 z3 => ?_
  obtain ⟨y, H3, I3, ry, a, b, kvs, p, v, ez, ex, ey, g, kk, kb, l, hl, q3⟩ := z3
  subst ex ey ez
  obtain rfl : u = Value.ref a := rx
  obtain rfl : iv = Value.ref b := ry
  exact n_put hu I3 g kk kb l hl rv fun s4 I4 => ⟨σ, _, I4, q3⟩
theorem pe_ndisp {k v : Expr} (hu : X.A.units + 9 < cLine) (hk : PE X k tk) (hv : PE X v tv) : PE X (.Dict [some k] [v] pos) (tNDisp X.prog X.w tk tv) := by
  refine ⟨fun pins s σ H Q I h => ?_⟩
  have hn := I.hok.fresh (Nat.le_refl s.heap.objs.size)
  have hb := I.big
  have R0 : NdR X.prog X.w (s.heap.push { cls := .type "dict", data := .dict #[] }) s.heap.objs.size [] :=
    ⟨Nat.zero_le _, beq_eq_false_iff_ne.mpr (Ne.symm (Nat.ne_of_lt hb)), [], .nil, _, #[], 0, Heap.get?_push_size _ rfl, ⟨rfl, rfl, rfl⟩, rfl, rfl, List.nodup_nil⟩
  have I1 := I.laid (a := s.heap.objs.size) (o := NdO X.prog X.w s.heap.objs.size []) (h' := s.heap.push { cls := .type "dict", data := .dict #[] }) (t' := s.toks) (fun _ _ q => Heap.get?_push_of_some _ q) (Nat.le_refl _) (nd_new R0)
  refine wpAny_Dict_any rfl rfl (by simp) (show 1 ≤ 15 by decide) ?_
  refine pairTrees_cons_walk (thn (hk.run pins _ σ _ _ I1 (h _ hn)) fun u s1 z1 => ?_)
  obtain ⟨y, H1, I2, ry, q1⟩ := z1
  refine thn (hv.run pins s1 σ H1 _ I2 q1) fun u2 s2 z2 => ?_
  obtain ⟨z, H2, I3, rz, b, p, n, ey, ez, g, kb, q2⟩ := z2
  subst ey ez
  obtain rfl : u = Value.ref b := ry
  refine pairTrees_nil_walk ?_
  unfold storeAll
  rw [List.forIn_cons]
  obtain ⟨zz, hd, xs, r, dd⟩ := nd_at I3.hok g (fun e m => nomatch m)
  cases r
  refine wpAny_bind (wpAny_bind (wpAny_dictSet_heap (hsz := Nat.zero_le _) (knd := nestedKind X.prog X.w) (show X.A.units + 8 < cLine by omega) (kb.key I3.hok) dd fun h' dd' hs => ?_))
  refine wpAny_pure ?_
  dsimp only
  rw [List.forIn_nil]
  refine wpAny_pure ⟨.ref s.heap.objs.size, _, ?_, rfl, q2⟩
  rw [storedH_new rfl] at dd'
  obtain ⟨q, es, ep, hq, h2, h3, h4, _, h5⟩ := dd'
  exact I3.write (x := s.heap.objs.size) (e := s.heap.objs.size) (by rw [g]; exact True.intro) (.inl rfl) (fun c u hc y => (hs.2 c hc).trans y) ⟨q, hq⟩ (nd_new ⟨(show 1 ≤ sizeLine by decide), hd, _, .cons ⟨rfl, rfl, (show ∃ tk, u2 = Value.int n tk from rz)⟩ .nil, q, es, ep, hq, h2, h3, h4, h5⟩)
end
end Mine
namespace Mine
open PySem PySem.Spec PyProof.Rows L2
open Sem (wp)
/-! set(xs) of a list of isI -/
abbrev emO (w : World) : Obj := { cls := .type "set", dict := none, data := .set #[] 0 (.fresh 0 0 (!w.params.followText "set-order")) }
section
variable {P : Program} {w : World} {A : Around} {E : Value → Shared → Prop} {s : Shared}
/-- the new set S holds the isI of ns, all else is kept -/
structure Filled (w : World) (h h' : Heap) (S : Addr) (ns : List Int) (c : Nat) : Prop where
  set : SetR w h' S (fun j => decide (j ∈ ns)) c
  few : c ≤ ns.length
  old : ∀ b o, h.get? b = some o → h'.get? b = some o
set_option maxHeartbeats 3200000 in
theorem set_of_ints {l : Addr} {xs : Array Value} (ns : List Int) {Q : Value → Shared → Prop} (calm : A.handled = none) (at_l : s.heap.IsList l xs) (isI : IntsAre xs.toList ns) (room : ns.length + 1 < scanBound)
    (q : ∀ (g : Heap) (tk c : Nat), Filled w s.heap g s.heap.objs.size ns c → Q (.ref s.heap.objs.size) { s with heap := g, toks := tk }) : wpAny (model P w) A (call (.type "set") [.ref l]) Q E s := by
  have many : xs.size = ns.length := by rw [← IntsAre.length isI, Array.length_toList]
  let h1 : Heap := s.heap.push (emO w)
  have hd : h1 = s.heap.push (emO w) := rfl
  have zS : h1.get? s.heap.objs.size = some (emO w) := Heap.get?_push_size _ rfl
  have sz1 : h1.objs.size = s.heap.objs.size + 1 := Heap.size_push ..
  have lt_l : l < s.heap.objs.size := let ⟨o, ho, _⟩ := at_l; Heap.lt_size ho
  have ty1 : Shared.TypeIs { s with heap := h1 } (.ref s.heap.objs.size) "set" := ⟨_, zS, rfl⟩
  have ls1 : h1.IsList l xs := at_l.push _
  clear_value h1
  obtain ⟨c0, t0, m0⟩ := F.called_set.mro
  have m1 := F.called_set.made; have m2 := F.called_set.sub; have m3 := F.called_set.notType; have m4 := F.called_set.canCreate
  have m5 := F.typeCall_set_1 (.ref l); have m6 := F.called_set.init.lookup; have m7 := F.called_set.init.bind (.ref s.heap.objs.size)
  refine wpAny_call (codeAny_of_tree (show wpAny _ _ (callAny (.type "set") _) _ _ _ from ?_))
  refine wpAny_pure ⟨Code.quiet_builtin _ (by decide +kernel), codeAny_builtin F.entry_type_call ?_⟩
  rw [Around.under_plain (weight_type_call_type "set" [.ref l] []) rfl]
  repeat (any_goals (first | assumption | wp_step))
  refine codeAny_mono (code_set_led1 (.ref l) (E := E) (Q₁ := fun v s' => v = .ref s.heap.objs.size ∧ s' = { s with heap := h1 }) ⟨rfl, by rw [hd]⟩) fun r s' hr => ?_
  rcases r with e | fl
  · exact hr
  cases fl with
  | ret v =>
    obtain ⟨rfl, rfl⟩ := hr
    repeat (any_goals (first | assumption | wp_step))
    refine codeAny_mono (codeAny_call_builtin (R := wants (fun v s' => v = .none ∧ ∃ g tk c, s' = { s with heap := g, toks := tk } ∧ Filled w s.heap g s.heap.objs.size ns c) E) F.called_set.init.plain F.entry_set_init (check_set_init_1 ty1 ?_)) fun r s' hr => ?_
    · obtain ⟨⟨oc, od, oa, os⟩, got, e1, n1, e2⟩ := at_l
      simp only at e1 e2
      subst e1; subst e2
      have got1 : h1.get? l = some { cls := .type "list", dict := od, data := .seq xs n1, slots := os } := by rw [hd]; exact Heap.get?_push_of_some _ got
      have k1 := F.sub_list_set; have k2 := F.sub_list_frozenset
      have k3 : (Value.type "list" == Value.type "dict") = false := by decide
      unfold Builtin.«set.__init__» noKeywords Builtin.Frozenset.updateFrom
      generalize hit : pyIter = IT
      wp_walk
      subst hit
      refine wpAny_pyIter_list ls1 (wpAny_bind (wpAny_runValue ?_))
      have calm3 : A.in1.in1.in1.handled = none := by simp [calm]
      have apart : l ≠ h1.objs.size := by rw [sz1]; exact Nat.ne_of_lt (Nat.lt_succ_of_lt lt_l)
      have notin : s.heap.objs.size ∉ [h1.objs.size, l] := by
        rw [sz1]
        intro m
        rcases List.mem_cons.mp m with e | m
        · exact absurd e (Nat.ne_of_lt (Nat.lt_succ_self _))
        · rw [List.mem_singleton] at m
          exact absurd lt_l (by rw [← m]; exact Nat.lt_irrefl _)
      refine set_update_ints ((Walks.list calm3 _ l apart xs).toS) s.heap.objs.size notin ns many room (fun i v hv => ?_) xs.size 0 _ (by omega) (Nat.zero_le _) ⟨⟨_, Heap.get?_push_size _ rfl, rfl, rfl⟩, ls1.push _⟩ ⟨0, Nat.le_refl 0, setR_new_at (Heap.get?_push_of_some _ zS)⟩ fun s' c moved le R => ?_
      · have hi : i < ns.length := by rw [← many]; exact (Array.getElem?_eq_some_iff.mp hv).1
        obtain ⟨t, e⟩ := PyProof.Rows.IntsAre.int_at isI i v (by rw [Array.getElem?_toList]; exact hv)
        exact ⟨ns[i], t, List.getElem?_eq_getElem hi, by rw [e, List.getD_eq_getElem?_getD, List.getElem?_eq_getElem hi]; rfl⟩
      · obtain ⟨g, g2, d2, tk, o2⟩ := s'
        obtain rfl : g2 = s.gens := moved.gens
        obtain rfl : d2 = s.drawn := moved.drawn
        obtain rfl : o2 = s.os := moved.os
        refine (show wpAny _ _ _ _ _ _ from wpAny_pure (show wpAny _ _ (ret Value.none) _ _ _ from wpAny_pure ⟨rfl, g, tk, c, rfl, R, by rw [← many]; exact le, fun b o e => ?_⟩))
        have lt := Heap.lt_size e
        refine moved.heap b o (fun m => ?_) (Heap.get?_push_of_some _ (by rw [hd]; exact Heap.get?_push_of_some _ e))
        rcases List.mem_cons.mp m with z | m
        · exact absurd lt (by rw [z]; exact Nat.lt_irrefl _)
        · rw [List.mem_singleton, sz1] at m
          exact absurd lt (by rw [m]; exact Nat.not_lt_of_le (Nat.le_succ _))
    · rcases r with e | fl
      · exact hr
      cases fl with
      | ret v =>
        obtain ⟨rfl, g, tk, c, rfl, R⟩ := hr
        repeat (any_goals (first | assumption | wp_step))
        exact q g tk c R
      | _ => exact hr.elim
  | _ => exact hr.elim
end
section
variable {X : Cx}
/-- set(xs), xs a list of ints -/
def rSetL (K : PySem.W.Frag) (w : World) : List V → Hp → VK → Prop := fun vs H Q => ∃ (l : Addr) (ns : List Int), vs = [V.ref l] ∧ SqL K H l (ns.map V.int) ∧ ns.length + 1 < scanBound ∧
  ∀ (p : Addr) (c : Nat), H p = none → c ≤ ns.length → Q (.ref p) (upd H p (SetO w p (fun j => decide (j ∈ ns)) c))
theorem cr_setL (hc : X.calm = true) : CallR X (.type "set") (rSetL X.K X.w) := by
  intro pins s σ H vs us Q I r h
  obtain ⟨l, ns, rfl, hl, hb, q⟩ := h
  rw [Vals.ref1 r]
  obtain ⟨its, rv, ⟨ob, n, ho, h1, _, h2⟩, hlen⟩ := I.list hl
  refine set_of_ints ns (I.ok.hd hc) ⟨ob, ho, h1, n, h2⟩ (ints_of_vals (by simpa using rv)) hb fun g tk c f => ?_
  have hn := I.hok.fresh (Nat.le_refl s.heap.objs.size)
  exact ⟨.ref s.heap.objs.size, _, I.laid (a := s.heap.objs.size) (o := SetO X.w s.heap.objs.size (fun j => decide (j ∈ ns)) c) (t' := tk) f.old (Nat.le_refl _) (setO_new f.set), rfl, q _ c hn f.few⟩
end
end Mine
namespace Mine
open PySem PySem.Spec PyProof.Rows L2
open Evl (Ex)
/-! yards: what stands in the heap -/
structure FYard (K : PySem.W.Frag) : Prop where
  cl : Cls K (He.ga K "Yard")
  nl : NoAttr K (He.ga K "Yard") "_lefts"
  nr : NoAttr K (He.ga K "Yard") "_rights"
  nh : NoAttr K (He.ga K "Yard") "_heights"
  nn : NoAttr K (He.ga K "Yard") "_numbers"
  nt : NoAttr K (He.ga K "Yard") "_turned"
structure Foot where
  y : Addr
  dx : Addr
  l : Addr
  r : Addr
  h : Addr
  n : Addr
  t : Addr
theorem klr : ¬ (("_lefts" : Str) = "_rights") := by decide +kernel
theorem klh : ¬ (("_lefts" : Str) = "_heights") := by decide +kernel
theorem kln : ¬ (("_lefts" : Str) = "_numbers") := by decide +kernel
theorem klt : ¬ (("_lefts" : Str) = "_turned") := by decide +kernel
theorem krh : ¬ (("_rights" : Str) = "_heights") := by decide +kernel
theorem krn : ¬ (("_rights" : Str) = "_numbers") := by decide +kernel
theorem krt : ¬ (("_rights" : Str) = "_turned") := by decide +kernel
theorem khn : ¬ (("_heights" : Str) = "_numbers") := by decide +kernel
theorem kht : ¬ (("_heights" : Str) = "_turned") := by decide +kernel
theorem knt : ¬ (("_numbers" : Str) = "_turned") := by decide +kernel
def yfs (F : Foot) : List (Str × V) := putF "_turned" (.ref F.t) (putF "_numbers" (.ref F.n) (putF "_heights" (.ref F.h) (putF "_rights" (.ref F.r) (putF "_lefts" (.ref F.l) []))))
theorem yfs_l (F : Foot) : (yfs F).lookup ("_lefts" : Str) = some (.ref F.l) := by
  unfold yfs
  rw [lookup_putF, if_neg klt, lookup_putF, if_neg kln, lookup_putF, if_neg klh, lookup_putF, if_neg klr, lookup_putF, if_pos rfl]
theorem yfs_r (F : Foot) : (yfs F).lookup ("_rights" : Str) = some (.ref F.r) := by
  unfold yfs
  rw [lookup_putF, if_neg krt, lookup_putF, if_neg krn, lookup_putF, if_neg krh, lookup_putF, if_pos rfl]
theorem yfs_h (F : Foot) : (yfs F).lookup ("_heights" : Str) = some (.ref F.h) := by
  unfold yfs
  rw [lookup_putF, if_neg kht, lookup_putF, if_neg khn, lookup_putF, if_pos rfl]
theorem yfs_n (F : Foot) : (yfs F).lookup ("_numbers" : Str) = some (.ref F.n) := by
  unfold yfs
  rw [lookup_putF, if_neg knt, lookup_putF, if_pos rfl]
theorem yfs_t (F : Foot) : (yfs F).lookup ("_turned" : Str) = some (.ref F.t) := by
  unfold yfs
  rw [lookup_putF, if_pos rfl]
theorem yfs_no (F : Foot) {m : Str} (h1 : ¬ m = "_turned") (h2 : ¬ m = "_numbers") (h3 : ¬ m = "_heights") (h4 : ¬ m = "_rights") (h5 : ¬ m = "_lefts") : (yfs F).lookup m = none := by
  unfold yfs
  rw [lookup_putF, if_neg h1, lookup_putF, if_neg h2, lookup_putF, if_neg h3, lookup_putF, if_neg h4, lookup_putF, if_neg h5]
  rfl
/-- refs to tuples of ints -/
def Rows (H : Hp) (xs : List V) (gs : List (List Int)) : Prop := xs.length = gs.length ∧ ∀ (i : Nat) (g : List Int), gs[i]? = some g → ∃ a, xs[i]? = some (.ref a) ∧ H a = some (.tup (g.map V.int))
theorem Rows.ex {H H' : Hp} {xs : List V} {gs : List (List Int)} (r : Rows H xs gs) (k : ∀ c ys, H c = some (.tup ys) → H' c = some (.tup ys)) : Rows H' xs gs :=
  ⟨r.1, fun i g e => let ⟨a, h1, h2⟩ := r.2 i g e; ⟨a, h1, k _ _ h2⟩⟩
theorem Rows.snoc {H : Hp} {xs : List V} {gs : List (List Int)} (r : Rows H xs gs) {a : Addr} {g : List Int} (e : H a = some (.tup (g.map V.int))) : Rows H (xs ++ [.ref a]) (gs ++ [g]) := by
  refine ⟨by rw [List.length_append, List.length_append, r.1]; rfl, fun i g' z => ?_⟩
  by_cases h : i < gs.length
  · rw [List.getElem?_append_left h] at z
    obtain ⟨b, h1, h2⟩ := r.2 i g' z
    exact ⟨b, by rw [List.getElem?_append_left (by rw [r.1]; exact h)]; exact h1, h2⟩
  · have hi : i = gs.length := by
      have := (List.getElem?_eq_some_iff.mp z).1
      rw [List.length_append, List.length_singleton] at this
      omega
    subst hi
    rw [List.getElem?_append_right (Nat.le_refl _), Nat.sub_self] at z
    have e2 : g' = g := by injection z with z; exact z.symm
    subst e2
    exact ⟨a, by rw [← r.1, List.getElem?_append_right (Nat.le_refl _), Nat.sub_self]; rfl, e⟩
/-- the entries of the dict of forms -/
def EntOf (G : List Pr) (kvs : List Ent) : Prop := kvs.length = G.length ∧ ∀ (i : Nat) (g : Pr), G[i]? = some g → ∃ b, kvs[i]? = some (g, b, (i : Int))
/-- a list of ints, strictly ascending, from 0 on below n -/
def Asc (n : Nat) (l : List Int) : Prop := l.Pairwise (· < ·) ∧ ∀ x ∈ l, 0 ≤ x ∧ x < (n : Int)
/-- the forms of a yard's games, one behind the other -/
structure Forms (G : List Pr) : Prop where
  zero : G[0]? = some ([], [])
  one : G.Nodup
  asc : ∀ (i : Nat) (g : Pr), G[i]? = some g → Asc i g.1 ∧ Asc i g.2
/-- the height k of a list of heights -/
def hat (hs : List Int) (k : Int) : Int := hs.getD k.toNat 0
/-- h is the height of the form g, by the heights of its options -/
def IsHt (hs : List Int) (g : Pr) (h : Int) : Prop := (g.1 ++ g.2 = [] ∧ h = 0) ∨ ∃ m, m ∈ (g.1 ++ g.2).map (hat hs) ∧ (∀ y ∈ (g.1 ++ g.2).map (hat hs), y ≤ m) ∧ h = 1 + m
def HtOk (G : List Pr) (hs : List Int) : Prop := ∀ (i : Nat) (g : Pr), G[i]? = some g → IsHt hs g (hat hs i)
structure YardAt (P : Program) (w : World) (K : PySem.W.Frag) (H : Hp) (F : Foot) (G : List Pr) (hv : List Int) (ts : List (Key × V)) : Prop where
  ins : H F.y = some (.ins (He.ga K "Yard") F.dx (yfs F))
  ls : ∃ xs, H F.l = some (.lst xs) ∧ Rows H xs (G.map (·.1))
  rs : ∃ xs, H F.r = some (.lst xs) ∧ Rows H xs (G.map (·.2))
  hs : H F.h = some (.lst (hv.map V.int)) ∧ hv.length = G.length
  ns : ∃ kvs, H F.n = some (NdO P w F.n kvs) ∧ Mine.Keys H kvs ∧ EntOf G kvs
  ts : H F.t = some (.dK ts)
  ne : F.l ≠ F.r ∧ F.l ≠ F.h ∧ F.r ≠ F.h
  ht : HtOk G hv
  G : Forms G
/-- not one of the yard's own objects -/
def Off (F : Foot) (c : Addr) : Prop := c ≠ F.l ∧ c ≠ F.r ∧ c ≠ F.h ∧ c ≠ F.n ∧ c ≠ F.t
/-- all but the yard's own objects stays -/
def Gr (F : Foot) (H H' : Hp) : Prop := ∀ c o, H c = some o → Off F c → H' c = some o
theorem Gr.refl (F : Foot) (H : Hp) : Gr F H H := fun _ _ h _ => h
theorem Gr.trans {F : Foot} {H H1 H2 : Hp} (a : Gr F H H1) (b : Gr F H1 H2) : Gr F H H2 := fun c o h f => b c o (a c o h f) f
theorem Gr.of {F : Foot} {H H' : Hp} (e : Ex H H') : Gr F H H' := fun c o h _ => e c o h
section
variable {P : Program} {w : World} {K : PySem.W.Frag} {H H' : Hp} {F : Foot} {G : List Pr} {hs : List Int} {ts : List (Key × V)}
theorem YardAt.ex (Y : YardAt P w K H F G hs ts) (e : Ex H H') : YardAt P w K H' F G hs ts :=
  ⟨e _ _ Y.ins, let ⟨xs, h1, h2⟩ := Y.ls; ⟨xs, e _ _ h1, h2.ex fun c ys => e c _⟩, let ⟨xs, h1, h2⟩ := Y.rs; ⟨xs, e _ _ h1, h2.ex fun c ys => e c _⟩, ⟨e _ _ Y.hs.1, Y.hs.2⟩,
    let ⟨kvs, h1, h2, h3⟩ := Y.ns; ⟨kvs, e _ _ h1, fun x m => (h2 x m).ex fun c ys => e c _, h3⟩, e _ _ Y.ts, Y.ne, Y.ht, Y.G⟩
/-- a fresh address is off -/
theorem YardAt.fresh (Y : YardAt P w K H F G hs ts) {c : Addr} (h : H c = none) : Off F c := by
  obtain ⟨xs, hl, _⟩ := Y.ls
  obtain ⟨ys, hr, _⟩ := Y.rs
  obtain ⟨kvs, hn, _⟩ := Y.ns
  exact ⟨(ne_of_none hl h).symm, (ne_of_none hr h).symm, (ne_of_none Y.hs.1 h).symm, (ne_of_none hn h).symm, (ne_of_none Y.ts h).symm⟩
/-- a tuple is off -/
theorem YardAt.tup (Y : YardAt P w K H F G hs ts) {c : Addr} {xs : List V} (h : H c = some (.tup xs)) : Off F c := by
  obtain ⟨zs, hl, _⟩ := Y.ls
  obtain ⟨ys, hr, _⟩ := Y.rs
  obtain ⟨kvs, hn, _⟩ := Y.ns
  exact ⟨ne_of h hl (by intro z; cases z), ne_of h hr (by intro z; cases z), ne_of h Y.hs.1 (by intro z; cases z), ne_of h hn (by intro z; cases z), ne_of h Y.ts (by intro z; cases z)⟩
theorem YardAt.meth (Y : YardAt P w K H F G hs ts) {m : Str} {Z : Prop} (h1 : ¬ m = "_turned") (h2 : ¬ m = "_numbers") (h3 : ¬ m = "_heights") (h4 : ¬ m = "_rights") (h5 : ¬ m = "_lefts") (q : Z) :
    ∃ b dx fs, V.ref F.y = V.ref b ∧ H b = some (HO.ins (He.ga K "Yard") dx fs) ∧ fs.lookup m = none ∧ Z := ⟨F.y, F.dx, _, rfl, Y.ins, yfs_no F h1 h2 h3 h4 h5, q⟩
end
/-! lists of ints -/
theorem asc_ext : ∀ {a b : List Int}, a.Pairwise (· < ·) → b.Pairwise (· < ·) → (∀ k, k ∈ a ↔ k ∈ b) → a = b
  | [], [], _, _, _ => rfl
  | [], y :: b, _, _, h => absurd ((h y).mpr List.mem_cons_self) (by simp)
  | x :: a, [], _, _, h => absurd ((h x).mp List.mem_cons_self) (by simp)
  | x :: a, y :: b, ha, hb, h => by
    obtain ⟨a1, a2⟩ := List.pairwise_cons.mp ha
    obtain ⟨b1, b2⟩ := List.pairwise_cons.mp hb
    have e : x = y := by
      have h1 := (h x).mp List.mem_cons_self
      have h2 := (h y).mpr List.mem_cons_self
      rcases List.mem_cons.mp h1 with e | m1
      · exact e
      · rcases List.mem_cons.mp h2 with e | m2
        · exact e.symm
        · have := b1 x m1; have := a1 y m2; omega
    subst e
    congr 1
    refine asc_ext a2 b2 fun k => ⟨fun m => ?_, fun m => ?_⟩
    · rcases List.mem_cons.mp ((h k).mp (List.mem_cons_of_mem _ m)) with e | m'
      · subst e; exact absurd (a1 k m) (Int.lt_irrefl _)
      · exact m'
    · rcases List.mem_cons.mp ((h k).mpr (List.mem_cons_of_mem _ m)) with e | m'
      · subst e; exact absurd (b1 k m) (Int.lt_irrefl _)
      · exact m'
theorem asc_low : ∀ {l : List Int} {lo : Int} {n : Nat}, l.Pairwise (· < ·) → (∀ x ∈ l, lo ≤ x ∧ x < lo + n) → l.length ≤ n
  | [], _, _, _, _ => Nat.zero_le _
  | x :: l, lo, n, h, b => by
    obtain ⟨h1, h2⟩ := List.pairwise_cons.mp h
    have bx := b x List.mem_cons_self
    have z := asc_low (l := l) (lo := x + 1) (n := (lo + n - (x + 1)).toNat) h2 fun y m => by
      have := h1 y m
      have := b y (List.mem_cons_of_mem _ m)
      omega
    rw [List.length_cons]
    omega
theorem Asc.len {n : Nat} {l : List Int} (h : Asc n l) : l.length ≤ n := asc_low (lo := 0) h.1 fun x m => by have := h.2 x m; omega
theorem Asc.up {n m : Nat} {l : List Int} (h : Asc n l) (le : n ≤ m) : Asc m l := ⟨h.1, fun x i => by have := h.2 x i; omega⟩
/-- a form is kept: there already, or the new last one -/
def Put (G : List Pr) (p : Pr) (i : Int) (G' : List Pr) : Prop := (∃ k : Nat, i = k ∧ G[k]? = some p ∧ G' = G) ∨ (p ∉ G ∧ i = G.length ∧ G' = G ++ [p])
theorem Put.get {G G' : List Pr} {p : Pr} {i : Int} (h : Put G p i G') : ∃ k : Nat, i = k ∧ G'[k]? = some p := by
  rcases h with ⟨k, e, h, rfl⟩ | ⟨_, e, rfl⟩
  · exact ⟨k, e, h⟩
  · exact ⟨G.length, e, by rw [List.getElem?_append_right (Nat.le_refl _), Nat.sub_self]; rfl⟩
theorem nodup_at {α : Type} {l : List α} (n : l.Nodup) {i j : Nat} {a : α} (h : l[i]? = some a) (h' : l[j]? = some a) : i = j := by
  obtain ⟨l1, e1⟩ := List.getElem?_eq_some_iff.mp h
  obtain ⟨l2, e2⟩ := List.getElem?_eq_some_iff.mp h'
  have pw := List.pairwise_iff_getElem.mp (show l.Pairwise (· ≠ ·) from n)
  rcases Nat.lt_trichotomy i j with c | c | c
  · exact absurd (e1.trans e2.symm) (pw i j l1 l2 c)
  · exact c
  · exact absurd (e2.trans e1.symm) (pw j i l2 l1 c)
theorem Put.one {G G1 G2 : List Pr} {p : Pr} {i j : Int} (n : G.Nodup) (h : Put G p i G1) (h' : Put G p j G2) : i = j ∧ G1 = G2 := by
  rcases h with ⟨k, rfl, h, rfl⟩ | ⟨h1, rfl, rfl⟩
  · rcases h' with ⟨k', rfl, h', rfl⟩ | ⟨h1', _, _⟩
    · exact ⟨by rw [nodup_at n h h'], rfl⟩
    · exact absurd (List.mem_of_getElem? h) h1'
  · rcases h' with ⟨k', rfl, h', rfl⟩ | ⟨_, rfl, rfl⟩
    · exact absurd (List.mem_of_getElem? h') h1
    · exact ⟨rfl, rfl⟩
theorem Forms.put {G G' : List Pr} {p : Pr} {i : Int} (f : Forms G) (h : Put G p i G') (a : Asc G.length p.1) (b : Asc G.length p.2) : Forms G' := by
  rcases h with ⟨k, _, _, rfl⟩ | ⟨n, _, rfl⟩
  · exact f
  · refine ⟨?_, ?_, fun j g e => ?_⟩
    · have := (List.getElem?_eq_some_iff.mp f.zero).1
      rw [List.getElem?_append_left this]; exact f.zero
    · rw [List.nodup_append]
      refine ⟨f.one, by simp, fun x hx y hy e => ?_⟩
      rw [List.mem_singleton] at hy
      subst hy; subst e
      exact n hx
    · by_cases hj : j < G.length
      · rw [List.getElem?_append_left hj] at e; exact f.asc j g e
      · have hj2 : j = G.length := by
          have := (List.getElem?_eq_some_iff.mp e).1
          rw [List.length_append, List.length_singleton] at this
          omega
        subst hj2
        rw [List.getElem?_append_right (Nat.le_refl _), Nat.sub_self] at e
        injection e with e
        subst e
        exact ⟨a, b⟩
theorem Put.len {G G' : List Pr} {p : Pr} {i : Int} (h : Put G p i G') : G.length ≤ G'.length ∧ G'.length ≤ G.length + 1 ∧ 0 ≤ i ∧ i < G'.length := by
  rcases h with ⟨k, rfl, h, rfl⟩ | ⟨_, rfl, rfl⟩
  · have := (List.getElem?_eq_some_iff.mp h).1
    exact ⟨Nat.le_refl _, Nat.le_succ _, by omega, by omega⟩
  · rw [List.length_append, List.length_singleton]
    exact ⟨by omega, by omega, by omega, by omega⟩
theorem EntOf.look {G : List Pr} {kvs : List Ent} (e : EntOf G kvs) (n : G.Nodup) {p : Pr} : (p ∉ G → Mine.look kvs p = none) ∧ ∀ k : Nat, G[k]? = some p → Mine.look kvs p = some (k : Int) := by
  have mem : ∀ x ∈ kvs, ∃ i : Nat, G[i]? = some x.1 ∧ x.2.2 = (i : Int) := fun x m => by
    obtain ⟨i, hi, e1⟩ := List.mem_iff_getElem.mp m
    have lt : i < G.length := by rw [← e.1]; exact hi
    obtain ⟨b, e2⟩ := e.2 i G[i] (List.getElem?_eq_getElem lt)
    have e3 : kvs[i]? = some x := by rw [List.getElem?_eq_getElem hi, e1]
    rw [e3] at e2
    injection e2 with e2
    subst e2
    exact ⟨i, List.getElem?_eq_getElem lt, rfl⟩
  constructor
  · intro h
    unfold Mine.look
    rw [List.find?_eq_none.mpr]
    · rfl
    · intro x m z
      have z := of_decide_eq_true z
      obtain ⟨i, h1, _⟩ := mem x m
      exact h (z ▸ List.mem_of_getElem? h1)
  · intro k hk
    unfold Mine.look
    cases q : kvs.find? (fun e => decide (e.1 = p)) with
    | none =>
      obtain ⟨b, e2⟩ := e.2 k p hk
      have := List.find?_eq_none.mp q _ (List.mem_of_getElem? e2)
      simp at this
    | some x =>
      have h1 := List.find?_some q
      have h1 : x.1 = p := of_decide_eq_true h1
      obtain ⟨i, h2, h3⟩ := mem x (List.mem_of_find?_eq_some q)
      rw [h1] at h2
      have : i = k := nodup_at n h2 hk
      subst this
      show some x.2.2 = _
      rw [h3]
theorem EntOf.snoc {G : List Pr} {kvs : List Ent} (e : EntOf G kvs) (p : Pr) (b : Addr) : EntOf (G ++ [p]) (kvs ++ [(p, b, (G.length : Int))]) := by
  refine ⟨by rw [List.length_append, List.length_append, e.1]; rfl, fun i g h => ?_⟩
  by_cases hi : i < G.length
  · rw [List.getElem?_append_left hi] at h
    obtain ⟨c, h1⟩ := e.2 i g h
    exact ⟨c, by rw [List.getElem?_append_left (by rw [e.1]; exact hi)]; exact h1⟩
  · have hi2 : i = G.length := by
      have := (List.getElem?_eq_some_iff.mp h).1
      rw [List.length_append, List.length_singleton] at this
      omega
    subst hi2
    rw [List.getElem?_append_right (Nat.le_refl _), Nat.sub_self] at h
    injection h with h
    subst h
    exact ⟨b, by rw [← e.1, List.getElem?_append_right (Nat.le_refl _), Nat.sub_self]; rfl⟩
theorem hat_left {hs : List Int} {x k : Int} (h0 : 0 ≤ k) (h1 : k < hs.length) : hat (hs ++ [x]) k = hat hs k := by
  unfold hat
  rw [List.getD_eq_getElem?_getD, List.getElem?_append_left (by omega), ← List.getD_eq_getElem?_getD]
theorem hat_new (hs : List Int) (x : Int) : hat (hs ++ [x]) (hs.length : Nat) = x := by
  unfold hat
  rw [List.getD_eq_getElem?_getD, Int.toNat_natCast, List.getElem?_append_right (Nat.le_refl _), Nat.sub_self]
  rfl
theorem hats_left {hs : List Int} {x : Int} {n : Nat} {l : List Int} (a : ∀ k ∈ l, 0 ≤ k ∧ k < (n : Int)) (le : n ≤ hs.length) : l.map (hat (hs ++ [x])) = l.map (hat hs) := by
  refine List.map_congr_left fun k m => ?_
  have := a k m
  exact hat_left this.1 (by omega)
theorem Asc.both {n : Nat} {g : Pr} (a : Asc n g.1) (b : Asc n g.2) : ∀ k ∈ g.1 ++ g.2, 0 ≤ k ∧ k < (n : Int) := fun k m => by
  rcases List.mem_append.mp m with h | h
  · exact a.2 k h
  · exact b.2 k h
theorem HtOk.snoc {G : List Pr} {hs : List Int} (o : HtOk G hs) (l : hs.length = G.length) (f : Forms G) {p : Pr} (a : Asc G.length p.1) (b : Asc G.length p.2) {h : Int} (n : IsHt hs p h) : HtOk (G ++ [p]) (hs ++ [h]) := by
  intro i g e
  by_cases hi : i < G.length
  · rw [List.getElem?_append_left hi] at e
    obtain ⟨a1, a2⟩ := f.asc i g e
    rw [hat_left (by omega) (by omega)]
    unfold IsHt
    rw [hats_left (Asc.both a1 a2) (by omega)]
    exact o i g e
  · have hi2 : i = G.length := by
      have := (List.getElem?_eq_some_iff.mp e).1
      rw [List.length_append, List.length_singleton] at this
      omega
    subst hi2
    rw [List.getElem?_append_right (Nat.le_refl _), Nat.sub_self] at e
    injection e with e
    subst e
    rw [← l, hat_new]
    unfold IsHt
    rw [hats_left (Asc.both a b) (by omega)]
    exact n
/-- the height of a new game -/
def Hgt (G : List Pr) (hs : List Int) (p : Pr) (G' : List Pr) (hs' : List Int) : Prop := (p ∈ G ∧ hs' = hs) ∨ (p ∉ G ∧ ∃ m, hs' = hs ++ [1 + m] ∧ m ∈ (p.1 ++ p.2).map (hat hs) ∧ ∀ y ∈ (p.1 ++ p.2).map (hat hs), y ≤ m)
end Mine
namespace Mine
open PySem PySem.Spec PyProof.Rows L2
/-! sorted(a set of ints), up to a thousand of them -/
theorem raw_iv (v : Value) (h : ∃ k tk, v = Value.int k tk) : Builtin.Re.reRawOf v = SrtO.iv v := by
  obtain ⟨k, tk, rfl⟩ := h; rfl
section
variable {P : Program} {w : World} {A : Around} {E : Value → Shared → Prop} {s : Shared}
set_option maxHeartbeats 1600000 in
theorem set_in_order {a : Addr} {S : Int → Bool} {n : Nat} {Q : Value → Shared → Prop} (r : SetR w s.heap a S n) (calm : A.handled = none) (few : n ≤ 1000)
    (q : ∀ (s' : Shared) (p : Addr) (out : Array Value) (c : Nat) (ns : List Int), (∀ b o, s.heap.get? b = some o → s'.heap.get? b = some o) → s'.gens = s.gens → s'.os = s.os → s.heap.objs.size ≤ p →
      s'.heap.get? p = some (seqObj "list" out c) → IntsAre out.toList ns → ns.Pairwise (· < ·) → (∀ k, k ∈ ns ↔ S k = true) → ns.length = n → Q (.ref p) s') :
    wpAny (model P w) A (call (.builtin "sorted") [.ref a]) Q E s := by
  obtain ⟨o, es, ep, t, ho, hex, hd, g, one, mem, hb, hf, cnt, ris, led⟩ := r
  refine Calls.call_function_entry kind_sorted plain_sorted entry_sorted (args_sorted1 _) ?_
  unfold Builtin.«sorted»
  refine wpAny_bind (m := checkCount "sorted" 1 1 _) (wpAny_pure ?_)
  refine wpAny_bind (collect_set (A := A.in1) calm ⟨o, ho, hex.1, hd⟩ hf hb ris led fun s1 vs old hz gens1 os1 pm => ?_)
  have many : vs.length = n := by rw [pm.length_eq, List.length_map, Array.length_toList]; exact cnt
  have isI : ∀ v ∈ vs, ∃ k tk, v = Value.int k tk := fun v hv => by
    obtain ⟨e, he, z⟩ := List.mem_map.mp (pm.mem_iff.mp hv)
    obtain ⟨k, tk, h1, _⟩ := g e he
    exact ⟨k, tk, by rw [← z]; exact h1⟩
  have isL := SrtO.ints_iv isI
  have keys : (vs.map SrtO.iv).Perm (es.toList.map L2.keyOf) := by
    have z := pm.map Builtin.Re.reRawOf
    rw [List.map_map] at z
    have e : vs.map Builtin.Re.reRawOf = vs.map SrtO.iv := List.map_congr_left fun v hv => raw_iv v (isI v hv)
    rw [e] at z
    exact z
  have line : vs.length ≤ sizeLine := by rw [many]; exact Nat.le_trans few (by decide)
  refine wpAny_bind (wpAny_newList ?_ line)
  have at_l : (s1.heap.push (seqObj "list" vs.toArray 0)).get? s1.heap.objs.size = some (seqObj "list" vs.toArray 0) := Heap.get?_push_size _ rfl
  refine wpAny_bind (wpAny_holding (wpAny_call_entry slot_list_sort ⟨_, at_l, rfl⟩ entry_list_sort (SrtO.list_sort_ord SrtO.swo_int at_l line (fun h2 => SrtO.ints_sortable isL h2) fun out h1 h2 => ⟨_, rfl, ?_⟩) (args_list_sort _)))
  obtain ⟨k1, k2, k3⟩ := SrtO.ints_out isL h1 h2
  obtain ⟨c, hc⟩ := sortedHeap_at (vs := vs) (out := out.toArray) at_l
  have pn := k2.trans keys
  refine wpAny_pure ⟨_, rfl, q _ s1.heap.objs.size out.toArray c (out.map SrtO.iv) (fun b u e => ?_) gens1 os1 hz hc k1 (lt_of_le_nodup _ k3 (pn.nodup_iff.mpr one)) (fun k => by rw [pn.mem_iff, ← mem k]) ?_⟩
  · have z := old b u e
    have lt := Heap.lt_size z
    show (sortedHeap (s1.heap.push (seqObj "list" vs.toArray 0)) s1.heap.objs.size vs out.toArray).get? b = some u
    rw [sortedHeap_old (Nat.ne_of_lt lt) (by rw [size_push']; exact Nat.lt_succ_of_lt lt)]
    exact Heap.get?_push_of_some _ z
  · rw [pn.length_eq, List.length_map, Array.length_toList]; exact cnt
end
def rSortX (w : World) : List V → Hp → VK → Prop := fun vs H Q => ∃ (a : Addr) (S : Int → Bool) (n : Nat), vs = [V.ref a] ∧ H a = some (SetO w a S n) ∧ n ≤ 1000 ∧
  ∀ (ns : List Int) (p : Addr), ns.Pairwise (· < ·) → (∀ k : Int, k ∈ ns ↔ S k = true) → ns.length = n → H p = none → Q (.ref p) (upd H p (.lst (ns.map V.int)))
theorem cr_sortX {X : Cx} (hc : X.calm = true) : CallR X (.builtin "sorted") (rSortX X.w) := by
  intro pins s σ H vs us Q I r h
  obtain ⟨a, S, n, rfl, ha, few, q⟩ := h
  rw [Vals.ref1 r]
  refine set_in_order (setO_get I ha) (I.ok.hd hc) few fun s' p out c ns k g o hp hg hi hs hm hl => ?_
  have line : (ns.map V.int).length ≤ sizeLine := by rw [List.length_map, hl]; exact Nat.le_trans few (by decide)
  have np : H p = none := I.hok.fresh hp
  have J : Inv X pins σ (upd H p (.lst (ns.map V.int))) { s with heap := s'.heap, gens := s'.gens, drawn := s'.drawn, toks := s'.toks } :=
    I.call (ch := []) (Un.laid k hp np) (I.hok.laid k hp ⟨line, out.toList, c, vals_of_ints hi, hg⟩) (by rw [g]; exact I.bare) (fun _ z => nomatch z)
  have e : s' = { s with heap := s'.heap, gens := s'.gens, drawn := s'.drawn, toks := s'.toks } := by
    cases s'; cases s; cases o; rfl
  rw [e]
  exact ⟨.ref p, _, J, rfl, q ns p hs hm hl np⟩
end Mine
namespace Mine
open PySem PySem.Spec PyProof.Rows L2
open Evl (Ex)
theorem hu9 {A : Around} {k : Nat} (hr : Room k A) : A.units + 9 < cLine := by have := hr.units; omega
/-! comprehensions whose items are known -/
/-- what a comprehension asks behind its source -/
def lcR (g : TG) (tt : TT) (te : TE) (vs : List Nat) (σ : L2.St) (Q : VK) : It → Hp → Prop := fun J H1 => ∀ D, H1 D = none → ∃ W : Nat → Nat → Hp → Prop, (∃ m, W 0 m (upd H1 D (.lst []))) ∧ ∀ i m H, W i m H →
  (J.stop i H ∧ Q (.ref D) H) ∨ (J.go i H ∧ ∃ Nx : Hp → Prop, (∀ H', Nx H' → ∃ m', m' < m ∧ W (i + 1) m' H') ∧ ∀ x H', J.yld i H x H' → g x (wipe σ vs) H' fun σ2 H2 => wipe σ2 vs = wipe σ vs ∧ tt σ2 H2 fun b H3 =>
    if b = true then te σ2 H3 fun y H4 => ∃ acc, H4 D = some (.lst acc) ∧ acc.length < sizeLine ∧ Nx (upd H4 D (.lst (acc ++ [y]))) else Nx H3)
/-- one turn gives the item o (none: it is left out) -/
def turnR (g : TG) (tt : TT) (te : TE) (vs : List Nat) (σ : L2.St) (x : V) (o : Option V) (H1 : Hp) : Prop := ∀ H', Ex H1 H' → ∀ R : Option V → Hp → Prop, (∀ H'', Ex H' H'' → R o H'') →
  g x (wipe σ vs) H' fun σ2 H2 => wipe σ2 vs = wipe σ vs ∧ tt σ2 H2 fun b H3 => if b = true then te σ2 H3 fun y H4 => R (some y) H4 else R none H3
/-- the way a reading passes a weaker wish on -/
structure MonoLc (g : TG) (tt : TT) (te : TE) (vs : List Nat) (σ : L2.St) : Prop where
  up : ∀ (x : V) (H' : Hp) (R R' : Option V → Hp → Prop), (∀ o H, R o H → R' o H) → (g x (wipe σ vs) H' fun σ2 H2 => wipe σ2 vs = wipe σ vs ∧ tt σ2 H2 fun b H3 => if b = true then te σ2 H3 fun y H4 => R (some y) H4 else R none H3) →
    g x (wipe σ vs) H' fun σ2 H2 => wipe σ2 vs = wipe σ vs ∧ tt σ2 H2 fun b H3 => if b = true then te σ2 H3 fun y H4 => R' (some y) H4 else R' none H3
section
variable {g : TG} {tt : TT} {te : TE} {vs : List Nat} {σ : L2.St} {Q : VK} {H1 : Hp} {K : PySem.W.Frag} {wi : TI}
theorem k_lc {H : Hp} (q : wi σ H (lcR g tt te vs σ Q)) : tLc wi g tt te vs σ H Q := q
theorem turn_in {x : V} {o : Option V} {D : Addr} {acc : List V} {H : Hp} {Nx : Hp → Prop} (t : turnR g tt te vs σ x o H1) (e : Ex H1 H) (hD : H1 D = none) (a : H D = some (.lst acc)) (len : acc.length < sizeLine)
    (nx : ∀ H', Ex H1 H' → H' D = some (.lst (acc ++ o.toList)) → Nx H') :
    g x (wipe σ vs) H fun σ2 H2 => wipe σ2 vs = wipe σ vs ∧ tt σ2 H2 fun b H3 => if b = true then te σ2 H3 fun y H4 => ∃ acc, H4 D = some (.lst acc) ∧ acc.length < sizeLine ∧ Nx (upd H4 D (.lst (acc ++ [y]))) else Nx H3 := by
  refine t H e (fun o' H4 => match o' with | some y => ∃ acc, H4 D = some (.lst acc) ∧ acc.length < sizeLine ∧ Nx (upd H4 D (.lst (acc ++ [y]))) | none => Nx H4) fun H'' e2 => ?_
  cases o with
  | none => exact nx H'' (e.trans e2) (by rw [e2 _ _ a]; simp)
  | some y => exact ⟨acc, e2 _ _ a, len, nx _ (Evl.Ex.mut (e.trans e2) hD) upd_same⟩
theorem lcR_list {a : Addr} {xs : List V} (f : V → Option V) (hS : SqL K H1 a xs) (len : xs.length < sizeLine) (t : ∀ x ∈ xs, turnR g tt te vs σ x (f x) H1)
    (q : ∀ D H', H1 D = none → Ex H1 H' → H' D = some (.lst (xs.filterMap f)) → Q (.ref D) H') : lcR g tt te vs σ Q (Itl K a) H1 := by
  intro D hD
  refine lc_list (K := K) (a := a) (xs := xs) (fun i H => Ex H1 H ∧ H D = some (.lst ((xs.take i).filterMap f))) ⟨Evl.Ex.new hD, upd_same⟩ (fun i H _ p => Evl.ex_l p.1 hS) (fun i x H hx p => ?_) (fun H p => ?_)
  · refine turn_in (t x (List.mem_of_getElem? hx)) p.1 hD p.2 ?_ fun H' e h' => ⟨e, ?_⟩
    · refine Nat.lt_of_le_of_lt (Nat.le_trans (List.length_filterMap_le _ _) ?_) len
      rw [List.length_take]; omega
    · rw [h', List.take_add_one, hx, List.filterMap_append]
      cases h : f x <;> simp [h]
  · refine q D H hD p.1 ?_
    rw [p.2, List.take_of_length_le (Nat.le_refl _)]
theorem lcR_tup {a : Addr} {xs : List V} (f : V → Option V) (hS : SqT K H1 a xs) (len : xs.length < sizeLine) (t : ∀ x ∈ xs, turnR g tt te vs σ x (f x) H1)
    (q : ∀ D H', H1 D = none → Ex H1 H' → H' D = some (.lst (xs.filterMap f)) → Q (.ref D) H') : lcR g tt te vs σ Q (Itt K a) H1 := by
  intro D hD
  refine lc_tup (K := K) (a := a) (xs := xs) (fun i H => Ex H1 H ∧ H D = some (.lst ((xs.take i).filterMap f))) ⟨Evl.Ex.new hD, upd_same⟩ (fun i H _ p => Evl.ex_t p.1 hS) (fun i x H hx p => ?_) (fun H p => ?_)
  · refine turn_in (t x (List.mem_of_getElem? hx)) p.1 hD p.2 ?_ fun H' e h' => ⟨e, ?_⟩
    · refine Nat.lt_of_le_of_lt (Nat.le_trans (List.length_filterMap_le _ _) ?_) len
      rw [List.length_take]; omega
    · rw [h', List.take_add_one, hx, List.filterMap_append]
      cases h : f x <;> simp [h]
  · refine q D H hD p.1 ?_
    rw [p.2, List.take_of_length_le (Nat.le_refl _)]
theorem lcR_rng {n : Nat} (f : Nat → Option V) (len : n < sizeLine) (t : ∀ i, i < n → turnR g tt te vs σ (.int (i : Int)) (f i) H1)
    (q : ∀ D H', H1 D = none → Ex H1 H' → H' D = some (.lst ((List.range n).filterMap f)) → Q (.ref D) H') : lcR g tt te vs σ Q (Itr 0 n) H1 := by
  intro D hD
  refine lc_range (lo := 0) (n := n) (fun i H => Ex H1 H ∧ H D = some (.lst ((List.range i).filterMap f))) ⟨Evl.Ex.new hD, upd_same⟩ (fun i H hi p => ?_) (fun H p => q D H hD p.1 p.2)
  have e0 : (0 : Int) + (i : Int) = (i : Int) := Int.zero_add _
  rw [e0]
  refine turn_in (t i hi) p.1 hD p.2 ?_ fun H' e h' => ⟨e, ?_⟩
  · refine Nat.lt_of_le_of_lt (Nat.le_trans (List.length_filterMap_le _ _) ?_) (Nat.lt_trans hi len)
    rw [List.length_range]; exact Nat.le_refl i
  · rw [h', List.range_succ, List.filterMap_append]
    cases h : f i <;> simp [h]
/-- a turn of x where the item is plain -/
theorem turn_map {i : Nat} {x y : V} (h : ∀ H', Ex H1 H' → ∀ R : VK, R y H' → te ((wipe σ [i]).set i (some x)) H' R) (w : wipe ((wipe σ [i]).set i (some x)) [i] = wipe σ [i] := by rfl) : turnR (gName i) tYes te [i] σ x (some y) H1 :=
  fun H' e R r => ⟨w, h H' e (fun y H4 => R (some y) H4) (r H' (Evl.Ex.refl _))⟩
end
section
variable {X : Cx}
/-- tuple(xs), xs a list -/
def rTupL (K : PySem.W.Frag) : List V → Hp → VK → Prop := fun vs H Q => ∃ p ys, vs = [V.ref p] ∧ SqL K H p ys ∧ ∀ l, H l = none → Q (.ref l) (upd H l (.tup ys))
theorem cr_tupL : CallR X (.type "tuple") (rTupL X.K) := fun pins s σ H xs us Q I r h =>
  let ⟨p, ys, e, h1, q⟩ := h
  call_tuple_of pins s σ H xs us Q I r ⟨p, ys, e, Or.inl ⟨h1, q⟩⟩
end
section
variable {H : Hp} {Q : VK} {K : PySem.W.Frag}
theorem k_tsl {r : V → Option Int → Option Int → Hp → VK → Prop} {σ : L2.St} {te : TE} {tl th : TO} (q : te σ H fun x H1 => tl σ H1 fun l H2 => th σ H2 fun u H3 => r x l u H3 Q) : L2.tSl r te tl th σ H Q := q
theorem k_part {σ : L2.St} {t : TE} {R : Option Int → Hp → Prop} (q : t σ H fun x H1 => ∃ i, x = .int i ∧ R (some i) H1) : tPart t σ H R := q
theorem k_nopart {σ : L2.St} {R : Option Int → Hp → Prop} (q : R none H) : tNoPart σ H R := q
theorem k_exi {R : Int → Prop} {j : Int} (q : R j) : ∃ i, V.int j = V.int i ∧ R i := ⟨j, rfl, q⟩
theorem k_slL {a : Addr} {xs : List V} {lo hi : Option Int} (h : SqL K H a xs) (q : ∀ p, H p = none → Q (.ref p) (upd H p (.lst (cutV xs lo hi)))) : rSlL K (.ref a) lo hi H Q := ⟨a, xs, rfl, h, q⟩
theorem k_sfl {σ : L2.St} {D : Ends} {ta tv : TE} {f : Str} (q : tv σ H fun y H1 => ta σ H1 fun x H2 => ∃ a C dx fs, x = .ref a ∧ H2 a = some (.ins C dx fs) ∧ Cls K C ∧ NoAttr K C f ∧ fs.length < 1000 ∧ D.nx σ (upd H2 a (.ins C dx (putF f y fs)))) : sFld K ta tv f D σ H := q
theorem k_nnot {P : Program} {w : World} {σ : L2.St} {ty td : TE} (q : ty σ H fun y H1 => td σ H1 fun x H2 => ∃ a b kvs p, x = V.ref a ∧ y = V.ref b ∧ H2 a = some (NdO P w a kvs) ∧ Mine.Keys H2 kvs ∧ PrT H2 b p ∧ Q (.bl (!(look kvs p).isSome)) H2) : tNNot P w ty td σ H Q := q
theorem k_nget {P : Program} {w : World} {σ : L2.St} {ty td : TE} (q : td σ H fun x H1 => ty σ H1 fun y H2 => ∃ a b kvs p v, x = V.ref a ∧ y = V.ref b ∧ H2 a = some (NdO P w a kvs) ∧ Mine.Keys H2 kvs ∧ PrT H2 b p ∧ look kvs p = some v ∧ Q (.int v) H2) : tNGet P w td ty σ H Q := q
theorem k_nput {P : Program} {w : World} {σ : L2.St} {D : Ends} {ty td tv : TE} (q : tv σ H fun z H1 => td σ H1 fun x H2 => ty σ H2 fun y H3 => ∃ a b kvs p v, z = V.int v ∧ x = V.ref a ∧ y = V.ref b ∧ H3 a = some (NdO P w a kvs) ∧ Mine.Keys H3 kvs ∧ PrT H3 b p ∧ look kvs p = none ∧
  kvs.length < sizeLine ∧ D.nx σ (upd H3 a (NdO P w a (kvs ++ [(p, b, v)])))) : sNPut P w td ty tv D σ H := q
theorem k_dget {σ : L2.St} {ty td : TE} (q : td σ H fun x H1 => ty σ H1 fun y H2 => ∃ a v, x = V.ref a ∧ DGet H2 a y (some v) ∧ Q v H2) : tDGet td ty σ H Q := q
theorem k_din {σ : L2.St} {ty td : TE} (q : ty σ H fun y H1 => td σ H1 fun x H2 => ∃ a o, x = V.ref a ∧ DGet H2 a y o ∧ Q (.bl o.isSome) H2) : tDIn ty td σ H Q := q
theorem k_dnotin {σ : L2.St} {ty td : TE} (q : ty σ H fun y H1 => td σ H1 fun x H2 => ∃ a o, x = V.ref a ∧ DGet H2 a y o ∧ Q (.bl (!o.isSome)) H2) : tDNotIn ty td σ H Q := q
theorem k_dput {σ : L2.St} {D : Ends} {ty td tv : TE} (q : tv σ H fun v H1 => td σ H1 fun x H2 => ty σ H2 fun y H3 => ∃ a H4, x = V.ref a ∧ DPut H3 a y v H4 ∧ D.nx σ H4) : sDPut td ty tv D σ H := q
theorem k_rCatA {a b : Addr} {xs ys : List V} (h1 : SqT K H a xs) (h2 : SqT K H b ys) (l : xs.length + ys.length ≤ sizeLine) (q : ∀ p H', Ex H H' → SqT K H' p (xs ++ ys) → Q (.ref p) H') : rCatA K (.ref a) (.ref b) H Q :=
  ⟨a, b, xs, ys, rfl, rfl, h1, h2, l, fun e => q b H (Evl.Ex.refl H) (by rw [e]; exact h2), fun _ e => q a H (Evl.Ex.refl H) (by rw [e, List.append_nil]; exact h1), fun _ _ p n => q p _ (Evl.Ex.new n) (k_st upd_same)⟩
/-- what an item of ints is made into -/
def onI (f : Int → Int) : V → Option V := fun v => match v with | .int k => some (.int (f k)) | _ => none
theorem onI_map (f : Int → Int) (ns : List Int) : (ns.map V.int).filterMap (onI f) = (ns.map f).map V.int := by
  induction ns with
  | nil => rfl
  | cons x xs ih =>
    have e : onI f (V.int x) = some (V.int (f x)) := rfl
    rw [List.map_cons, List.filterMap_cons, e, ih]
    rfl
theorem hat_at {hs : List Int} {k : Int} {n : Nat} (l : hs.length = n) (h0 : 0 ≤ k) (h1 : k < n) : atI (hs.map V.int) k = some (V.int (hat hs k)) := by
  obtain ⟨z, hz, e⟩ := at_int (ns := hs) h0 (by omega)
  rw [e]
  unfold hat
  rw [List.getD_eq_getElem?_getD, hz]
  rfl
theorem k_rTupL {p : Addr} {ys : List V} (h : SqL K H p ys) (q : ∀ l, H l = none → Q (.ref l) (upd H l (.tup ys))) : rTupL K [.ref p] H Q := ⟨p, ys, rfl, h, q⟩
theorem k_rListL {p : Addr} {ys : List V} (h : SqL K H p ys) (q : ∀ l, H l = none → Q (.ref l) (upd H l (.lst ys))) : rListQ K [.ref p] H Q := ⟨p, ys, rfl, Or.inl h, q⟩
theorem k_rListT {p : Addr} {ys : List V} (h : SqT K H p ys) (q : ∀ l, H l = none → Q (.ref l) (upd H l (.lst ys))) : rListQ K [.ref p] H Q := ⟨p, ys, rfl, Or.inr h, q⟩
theorem k_rSetL {w : World} {p : Addr} {ns : List Int} (h : SqL K H p (ns.map V.int)) (b : ns.length ≤ 1000) (q : ∀ (p : Addr) (c : Nat), H p = none → c ≤ ns.length → Q (.ref p) (upd H p (SetO w p (fun j => decide (j ∈ ns)) c))) : rSetL K w [.ref p] H Q :=
  ⟨p, ns, rfl, h, Nat.lt_of_le_of_lt (Nat.succ_le_succ b) (by decide), q⟩
theorem k_rSorted {w : World} {a : Addr} {S : Int → Bool} {n : Nat} (h : H a = some (SetO w a S n)) (l : n ≤ 1000) (q : ∀ (ns : List Int) (p : Addr), ns.Pairwise (· < ·) → (∀ k : Int, k ∈ ns ↔ S k = true) → ns.length = n → H p = none → Q (.ref p) (upd H p (.lst (ns.map V.int)))) :
    rSortX w [.ref a] H Q := ⟨a, S, n, rfl, h, l, q⟩
theorem inV_ints (x : Int) : ∀ ns : List Int, inV (V.int x) (ns.map V.int) = decide (x ∈ ns)
  | [] => rfl
  | y :: ys => by
    show (eqV (V.int y) (V.int x) || inV (V.int x) (ys.map V.int)) = _
    rw [inV_ints x ys]
    have e1 : eqV (V.int y) (V.int x) = decide (x = y) := by
      by_cases h1 : x = y
      · subst h1; simp [eqV]
      · simp [eqV, h1, Ne.symm h1]
    rw [e1]
    by_cases h1 : x = y <;> simp [h1]
theorem k_in {neg : Bool} {x : Int} {p : Addr} {ns : List Int} (h : SqL K H p (ns.map V.int)) (q : Q (.bl (if neg then !decide (x ∈ ns) else decide (x ∈ ns))) H) : rIn K neg (.int x) (.ref p) H Q := by
  have f : (ns.map V.int).all flatV = true := by simp [flatV]
  exact ⟨p, _, rfl, Or.inl h, rfl, f, by rw [inV_ints]; exact q⟩
theorem k_rMaxL {a : Addr} {ns : List Int} (h : SqL K H a (ns.map V.int)) (l : 0 < ns.length) (q : ∀ m, m ∈ ns → (∀ y, y ∈ ns → y ≤ m) → Q (.int m) H) : rMax K [.ref a] H Q := ⟨a, ns, rfl, h, l, q⟩
theorem k_rCat {a b : Addr} {xs ys : List V} (h1 : H a = some (.lst xs)) (h2 : H b = some (.lst ys)) (l : xs.length + ys.length ≤ sizeLine) (q : ∀ p, H p = none → Q (.ref p) (upd H p (.lst (xs ++ ys)))) : rCat (.ref a) (.ref b) H Q := ⟨a, b, xs, ys, rfl, rfl, h1, h2, l, q⟩
end
end Mine
namespace Mine
open PySem PySem.Spec PyProof.Rows L2
open Evl (Ex)
/-! a part that is read under a condition on the error -/
def tWhen (p : Prop) (t : TS) : TS := fun D σ H => p ∧ t D σ H
theorem pss_when {X : Cx} {b : List Stmt} {p : Prop} {t : TS} (h : p → PSs X b t) : PSs X b (tWhen p t) :=
  ⟨fun pins s σ H D I q => (h q.1).run pins s σ H D I q.2⟩
theorem zc_at {cls c : Value} {d : Option Addr} {oe : Obj} (h : cls = c ∧ d = none) (z : Zc cls d oe) : Zc c none oe := by
  obtain ⟨rfl, rfl⟩ := h
  exact z
/-- try: body except c as (slot i): suite -/
def tTryAs (K : PySem.W.Frag) (c : Value) (i : Nat) (tb : WX → TS) (ts : Addr → Value → Option Addr → TS) : TS := fun D σ H => tb (wAs K c i ts (fun _ _ _ _ => False) D) D σ H
theorem k_isE {K : PySem.W.Frag} {D a : Addr} {c : V} {cv : Value} {b : Bool} {H : Hp} {Q : VK} (h : PySem.W.kitOne K (.ref D) cv = some b) (hc : ∀ u, RelV c u → u = cv) (q : Q (.bl b) H) : rIsE K D a [.ref a, c] H Q :=
  ⟨c, cv, b, rfl, hc, h, q⟩
theorem rel_ref {c : Addr} : ∀ u, RelV (.ref c) u → u = .ref c := fun _ h => h
theorem rel_ty {n : String} : ∀ u, RelV (.ty n) u → u = .type n := fun _ h => h
/-- C(e, ..) where its __init__ may raise, at the slots -/
def tMakeS (C : Addr) (sp : Sp) (dvs : List V) (E : L2.St → XK) (t : TA) : TE := fun σ H Q => t σ H fun vs H1 => ∀ x dx, H1 x = none → H1 dx = none → dx ≠ x → sp (.ref x :: (vs ++ dvs)) (upd (upd H1 dx (.own x)) x (.ins C dx [])) (fun v H2 => v = .non ∧ Q (.ref x) H2) (E σ)
section
variable {X : Cx} {CX : CXT} {k : Nat} {f C : Addr} {fd : FuncData} {ps : List Str} {sp : Sp} {E : L2.St → XK} {dvs : List V} {ds : List Value} {x : Str} {p pos : Pos} {e : Expr} {es : List Expr} {t : TA}
theorem pe_makeS (M : Mk X.K C f) (F : FnOk X.prog X.w X.K X.mg X.base CX k f fd ps sp) (hr : Room (k + 1) X.A) (hg : Gl X x) (hm : X.mg x = some (.ref C)) (hb : Binds X.K fd ps ds) (hd : Vals dvs ds) (hx : ∀ σ, PassesAt CX X σ (E σ))
    (ha : PA X (e :: es) t) (hdb : (x == ("__debug__" : Str)) = false := by decide) (he : starEach (e :: es) X.env = (false, eval e X.env) :: starEach es X.env := by rfl) (hpl : (backTo pos (starEach es X.env)).any (·.1) = false := by rfl) :
    PE X (.Call (.Name x p) (e :: es) [] pos) (tMakeS C sp dvs E t) := by
  constructor
  intro pins s σ H Q I h
  refine wpAny_Call_Name_kw (ld_glob I hg hm ?_ hdb)
  refine PySem.W.callWith_K (h₀ := X.base) I.ok.mod.kin M.kp ?_ he hpl
  refine thn (ha.run pos pins s σ H _ I h) ?_
  rintro us s1 ⟨vs, H1, I1, r, q⟩
  refine ⟨I1.kIn, ?_⟩
  have q1 := q (s1.heap.objs.size + 1) s1.heap.objs.size (I1.hok.fresh (Nat.le_succ _)) (I1.hok.fresh (Nat.le_refl _)) (Nat.ne_of_lt (Nat.lt_succ_self _))
  have J := Inv.made (C := C) I1
  have rr : Vals (V.ref (s1.heap.objs.size + 1) :: (vs ++ dvs)) (Value.ref (s1.heap.objs.size + 1) :: (us ++ ds)) := .cons rfl (r.append hd)
  have hl : (Value.ref (s1.heap.objs.size + 1) :: us ++ ds).length = ps.length := by
    rw [← F.len _ _ _ _ q1]; exact rr.length.symm
  refine wpAny_call (make_map (f := f) I1.kIn M.makes M.init (beq_iff_eq.mp M.fn) (codeAny_mono (F.run _ X.stack _ _ ⟨Value.ref (s1.heap.objs.size + 1) :: us, []⟩ (Value.ref (s1.heap.objs.size + 1) :: (us ++ ds)) _ _ (E σ) (hr.make C us [])
    (J.env0.make C us []) (hb _ (Value.ref (s1.heap.objs.size + 1) :: us) J.kIn hl) rr q1) ?_))
  rintro (er | fl) s' hq
  · exact hx σ pins _ _ er s' J hq
  · cases fl with
    | ret u =>
      obtain ⟨v, H', I3, rv, ev, q3⟩ := J.after hq
      subst ev
      exact ⟨rv, ⟨V.ref (s1.heap.objs.size + 1), H', I3, rfl, q3⟩⟩
    | next => exact False.elim hq
    | brk => exact False.elim hq
    | cont => exact False.elim hq
end
open PySem.W (Frag)
def excCB (K : Frag) (C : Str) : Bool :=
  He.eqO (PySem.W.findIn K (.ref (He.ga K C)) "__getattribute__") (some (some (.builtin "BaseException.__getattribute__"))) &&
  (decide (PySem.W.findIn K (.ref (He.ga K C)) "__getattr__" = some none) &&
  (decide (PySem.W.subIn K (.ref (He.ga K C)) (.type "BaseException") = some true) &&
  (decide (PySem.W.hasDictIn K (He.ga K C) = true) &&
  (He.eqO (PySem.W.findIn K (.ref (He.ga K C)) "__class__") (some (some (.builtin "object.__class__"))) &&
  (He.eqO (PySem.W.specialIn K (.builtin "object.__class__") "__get__") (some (some (.builtin "getset_descriptor.__get__"))) &&
  (decide (PySem.W.takesIn K (.builtin "object.__class__") = some true) && decide (PySem.W.mroIn K (He.ga K C) (.type "object") = some true)))))))
theorem excC_ok {K : Frag} {C : Str} (h : excCB K C = true) : ExcC K (He.ga K C) := by
  unfold excCB at h
  rw [Bool.and_eq_true, Bool.and_eq_true, Bool.and_eq_true, Bool.and_eq_true, Bool.and_eq_true, Bool.and_eq_true, Bool.and_eq_true] at h
  obtain ⟨h1, h2, h3, h4, h5, h6, h7, h8⟩ := h
  exact ⟨He.eqO_ok h1, of_decide_eq_true h2, of_decide_eq_true h3, of_decide_eq_true h4, He.eqO_ok h5, He.eqO_ok h6, of_decide_eq_true h7, of_decide_eq_true h8⟩
/-- what the errors' classes say of BadValue -/
structure FBadValue (K : Frag) : Prop where
  ex : PySem.W.exmOne K (.ref (He.ga K "BadValue")) (.ref (He.ga K "PlayError")) = some true
  k1 : PySem.W.kitOne K (.ref (He.ga K "BadValue")) (.ref (He.ga K "BadText")) = some false
  k2 : PySem.W.kitOne K (.ref (He.ga K "BadValue")) (.ref (He.ga K "NoMove")) = some false
  k3 : PySem.W.kitOne K (.ref (He.ga K "BadValue")) (.ref (He.ga K "Unknown")) = some false
  k4 : PySem.W.kitOne K (.ref (He.ga K "BadValue")) (.ref (He.ga K "BadValue")) = some true
  k5 : PySem.W.kitOne K (.ref (He.ga K "BadValue")) (.type "ValueError") = some true
end Mine
namespace Mine
open PySem PySem.Spec PyProof.Rows L2
open Evl (Ex)
section
variable {σ : L2.St} {H : Hp} {Q : VK} {K : PySem.W.Frag} {D : Ends}
theorem k_tryAs {c : Value} {i : Nat} {tb : WX → TS} {ts : Addr → Value → Option Addr → TS} (q : tb (wAs K c i ts (fun _ _ _ _ => False) D) D σ H) : tTryAs K c i tb ts D σ H := q
theorem k_makeS {C : Addr} {sp : Sp} {dvs : List V} {E : L2.St → XK} {t : TA} (q : t σ H fun vs H1 => ∀ x dx, H1 x = none → H1 dx = none → dx ≠ x → sp (.ref x :: (vs ++ dvs)) (upd (upd H1 dx (.own x)) x (.ins C dx [])) (fun v H2 => v = .non ∧ Q (.ref x) H2) (E σ)) : tMakeS C sp dvs E t σ H Q := q
theorem k_callSD {sp : Sp} {dvs : List V} {E : L2.St → XK} {t : TA} (q : t σ H fun vs H1 => sp (vs ++ dvs) H1 Q (E σ)) : tCallSD sp dvs E t σ H Q := q
theorem k_when {p : Prop} {t : TS} (h : p) (q : t D σ H) : tWhen p t D σ H := ⟨h, q⟩
/-- the suite is reached -/
theorem k_wAs {cls : Value} {c : Value} {i : Nat} {d : Option Addr} {ts : Addr → Value → Option Addr → TS} {Wout : WX} (e : PySem.W.exmOne K cls c = some true)
    (q : ∀ a, H a = none → ts a cls d { nx := fun σ' H' => D.nx (σ'.set i none) H', rt := D.rt, bk := fun σ' H' => D.bk (σ'.set i none) H', ct := fun σ' H' => D.ct (σ'.set i none) H' } (σ.set i (some (.ref a))) H) : WE (wAs K c i ts Wout D) σ cls d H :=
  ⟨true, e, fun _ => q, fun z => Bool.noConfusion z⟩
theorem TyB.ex {H H' : Hp} {x : V} {T : String} (t : TyB K H x T) (e : Ex H H') : TyB K H' x T := by
  cases t
  case lst h => exact .lst (Evl.ex_l e h)
  case tup h => exact .tup (Evl.ex_t e h)
  case dK h => exact .dK (e _ _ h)
  all_goals constructor
end
/-! keywords -/
def gKA {α : Type} (us ds zs : List α) : List α := us ++ (zs ++ ds)
def gKB {α : Type} (us _ zs : List α) : List α := us ++ zs
def gKC {α : Type} (us _ zs : List α) : List α := us ++ zs.reverse
theorem vals_rev {vs : List V} {us : List Value} (r : Vals vs us) : Vals vs.reverse us.reverse := by
  induction r with
  | nil => exact .nil
  | cons h _ ih => rw [List.reverse_cons, List.reverse_cons]; exact ih.append (.cons h .nil)
theorem gKA_rel {vs ds zs : List V} {us its ws : List Value} (r : Vals vs us) (rd : Vals ds its) (rz : Vals zs ws) : Vals (gKA vs ds zs) (gKA us its ws) := r.append (rz.append rd)
theorem gKB_rel {vs ds zs : List V} {us its ws : List Value} (r : Vals vs us) (_ : Vals ds its) (rz : Vals zs ws) : Vals (gKB vs ds zs) (gKB us its ws) := r.append rz
theorem gKC_rel {vs ds zs : List V} {us its ws : List Value} (r : Vals vs us) (_ : Vals ds its) (rz : Vals zs ws) : Vals (gKC vs ds zs) (gKC us its ws) := r.append (vals_rev rz)
end Mine
namespace Mine
open PySem PySem.Spec PyProof.Rows L2
open PySem.AutoSeq1
/-! enumerate(a tuple) -/
set_option maxHeartbeats 1600000 in
theorem meets_enum1 {v : Value} {o : Obj} {G : Heap → Prop} (B : Begins v o G) :
    Meets (Builtin.«enumerate.__new__» ⟨[.type "enumerate", v], []⟩) (fun _ R s => G s.heap ∧
      R (.ok (.ret (.ref (s.heap.push o).objs.size))) { s with heap := (s.heap.push o).push { cls := .type "enumerate", data := .fields #[.none, .bool false, .ref s.heap.objs.size, rawInt 0, .none, .none] } }) :=
  .of_wp fun prog w A R s h => by
    obtain ⟨hp, g, d, tk, os⟩ := s
    obtain ⟨h1, h⟩ := h
    have sub := sub_enumerate
    have begins : ∀ {A' : Around} {E : Value → Shared → Prop} {Q : Value → Shared → Prop}, Q (.ref hp.objs.size) ⟨hp.push o, g, d, tk, os⟩ → wpAny (model prog w) A' (pyIter v) Q E ⟨hp, g, d, tk, os⟩ :=
      fun q => B.iter prog w _ _ ⟨hp, g, d, tk, os⟩ _ h1 q
    wp_walk using begins
    refine wpAny_stack_any fun st => wpAny_pure ?_
    split
    · rename_i c _ _ _ _ _
      cases (c == Value.type "enumerate")
      · wp_walk using begins
        exact ⟨_, rfl, h⟩
      · wp_walk using begins
        exact ⟨_, rfl, h⟩
    · wp_walk using begins
      exact ⟨_, rfl, h⟩
section
variable {prog : Program} {w : World} {A : Around} {E : Value → Shared → Prop} {s : Shared}
theorem enum1_begins {v : Value} {o : Obj} {G : Heap → Prop} {Q : Value → Shared → Prop} (B : Begins v o G) (h1 : G s.heap)
    (q : ∀ h', IsEnum h' (s.heap.objs.size + 1) s.heap.objs.size 0 .none → h'.get? s.heap.objs.size = some o → (∀ b u, s.heap.get? b = some u → h'.get? b = some u) → Q (.ref (s.heap.objs.size + 1)) { s with heap := h' }) :
    wpAny (model prog w) A (call (.type "enumerate") [v]) Q E s := by
  refine callType_new F.called_enumerate (by decide) (F.typeCall_enumerate_1 _) (F.newCall_enumerate_1 _) (fun obj => F.args_object_init_2 obj _) F.entry_enumerate_new (meets_enum1 B) ⟨h1, ?_⟩
  have z : (s.heap.push o).objs.size = s.heap.objs.size + 1 := Heap.size_push ..
  show _ ∧ _
  rw [z]
  have he : IsEnum ((s.heap.push o).push { cls := .type "enumerate", data := .fields #[.none, .bool false, .ref s.heap.objs.size, rawInt 0, .none, .none] }) (s.heap.objs.size + 1) s.heap.objs.size 0 .none := by
    have t := Heap.get?_push_size (s.heap.push o) (o := { cls := .type "enumerate", data := .fields #[.none, .bool false, .ref s.heap.objs.size, rawInt 0, .none, .none] }) rfl
    rw [z] at t; exact t
  exact ⟨⟨_, he, rfl⟩, q _ he (Heap.get?_push_of_some _ (Heap.get?_push_size _ B.free)) fun b u x => Heap.get?_push_of_some _ (Heap.get?_push_of_some _ x)⟩
end
/-- the tuple at a, each item in a new pair with its place -/
def IteT (K : PySem.W.Frag) (a : Addr) : It :=
  ⟨fun i H => ∃ (xs : List V) (x : V), SqT K H a xs ∧ xs[i]? = some x, fun i H v H' => ∃ T x, v = .ref T ∧ H T = none ∧ H' = upd H T (.tup [.int (i : Nat), x]) ∧ ∀ xs, SqT K H a xs → xs[i]? = some x, fun i H => ∃ xs : List V, SqT K H a xs ∧ xs.length ≤ i⟩
theorem turn_enumT {P : Program} {w : World} {K : PySem.W.Frag} {elts : List Expr} {kk : Nat} {tpos : Pos} (a e it : Addr) :
    Turn P w K (.Tuple elts kk tpos) (IteT K a) [e, it] e (fun i h => (∃ old, IsEnum h e it ((i : Nat) : Int) old) ∧ h.IsTupleIter it a i ∧ e ≠ it ∧ a ≠ it ∧ e ≠ a) where
  mem := by simp
  obj := fun i h st b hb => by
    obtain ⟨⟨old, he⟩, ⟨o, ho, hc, hd⟩, _⟩ := st
    rcases (show b = e ∨ b = it by simpa using hb) with z | z
    · rw [z]; exact ⟨_, he, fun v q => nomatch q⟩
    · rw [z]; exact ⟨o, ho, fun v q => by rw [hd] at q; cases q⟩
  keep := fun i h h' st k => let ⟨⟨old, he⟩, hi, hne⟩ := st; ⟨⟨old, k e (by simp) _ he⟩, hi.at fun o q => k it (by simp) o q, hne⟩
  item := by
    intro X hP hw hK hc i pins s σ H E I hf st hg
    subst hP hw hK
    obtain ⟨⟨old, he⟩, hit, hne, hat, hea⟩ := st
    obtain ⟨xs, x, hq, hx⟩ := hg
    obtain ⟨its, rv, p, hz⟩ := I.tuple hq
    have len := rv.length
    have hi : i < its.length := by have := (List.getElem?_eq_some_iff.mp hx).1; omega
    have hel : e < s.heap.objs.size := Heap.lt_size he
    have hil : it < s.heap.objs.size := by obtain ⟨_, q, _⟩ := hit; exact Heap.lt_size q
    have D := Draws.tuple (prog := X.prog) (w := X.w) (A := X.A.in1) (I.ok.hd hc) it a hat its.toArray
    refine wpAny_pyNext_enum_itemC D he ⟨hit, p⟩ (by simpa using hi) hne (by simp [hne, hea]) fun y h' tk hy ho st' hT hsz hk => ?_
    refine ⟨_, rfl, wpAny_letOwnedTupleGo_enum (s := { s with heap := h', toks := tk + 1 }) ho fun h'' he' sb => ?_⟩
    have hT2 : h''.get? s.heap.objs.size = some { cls := .type "tuple", data := .seq #[.int i tk, y] } := (sb.2 _ (Nat.ne_of_gt hel)).trans hT
    obtain ⟨u, hu, ru⟩ := rv.get hx
    have ey : y = u := by
      have z : its[i]? = some y := by simpa using hy
      rw [hu] at z
      exact (Option.some.inj z).symm
    subst ey
    have new : ObjOk X.prog X.w (upd H s.heap.objs.size (.tup [.int (i : Nat), x])) h'' s.heap.objs.size (.tup [.int (i : Nat), x]) :=
      ⟨by show 2 ≤ sizeLine; decide, [.int i tk, y], .cons ⟨_, rfl⟩ (.cons ru .nil), ⟨_, hT2, rfl, _, rfl⟩⟩
    have I1 : Inv X pins σ (upd H s.heap.objs.size (.tup [.int (i : Nat), x])) { s with heap := h'', toks := tk + 1 } :=
      I.turnedNew (ch := [e, it]) (fun b ob hb q => (sb.2 b (fun z => hb (by simp [z]))).trans (hk b ob (fun z => hb (by simp [z])) (fun z => hb (by simp [z])) q)) hf (Nat.le_refl _) new
    refine ⟨.ref s.heap.objs.size, _, I1, rfl, ⟨_, x, rfl, I.hok.fresh (Nat.le_refl _), rfl, fun ys hy => by rw [I.tuple_inj hy hq]; exact hx⟩, ⟨⟨y, ?_⟩, st'.1.at fun o q => (sb.2 it (Ne.symm hne)).trans q, hne, hat, hea⟩, fun b hb => ?_⟩
    · have e1 : ((i + 1 : Nat) : Int) = (i : Int) + 1 := by omega
      rw [e1]; exact he'
    · have hb' : b < s.heap.objs.size := by
        rcases (show b = e ∨ b = it by simpa using hb) with z | z
        · rw [z]; exact hel
        · rw [z]; exact hil
      rw [upd_ne (Nat.ne_of_lt hb')]
      exact (hf b hb).1
  done := by
    intro X hP hw hK hc i pins s σ H E I hf st hg
    subst hP hw hK
    obtain ⟨⟨old, he⟩, hit, hne, hat, hea⟩ := st
    obtain ⟨xs, hq, hx⟩ := hg
    obtain ⟨its, rv, p, hz⟩ := I.tuple hq
    obtain ⟨f0, f1, f2, f3, f4, f5⟩ := hf it (by simp)
    have len := rv.length
    have D : Draws X.prog X.w X.A.in1 it [it, a] i (fun _ _ => True) (fun j h => j = i ∧ h.IsTupleIter it a i ∧ h.IsTuple a its.toArray) :=
      { live := fun _ _ st => let ⟨o, ho, _⟩ := st.2.1; ⟨o, ho⟩
        frame := fun _ _ _ st hk => ⟨st.1, st.2.1.at fun o e => hk it (by simp) o e, st.2.2.at fun o e => hk a (by simp) o e⟩
        item := fun j s Q E hj st _ => absurd st.1 (Nat.ne_of_lt hj)
        done := fun s Q E st hE => wpAny_nextOf_tuple_end (I.ok.hd hc) st.2.1 st.2.2 (by simp; omega) hE }
    exact wpAny_pyNext_enum_endD D he ⟨rfl, hit, p⟩ fun h' eb => ⟨rfl, I.turned (t' := s.toks) (fun b o hb q => eb b o hb q) f0 f1 f3 f4 f5⟩
  self := fun A i s Q E st h => let ⟨⟨_, he⟩, _⟩ := st; wpAny_pyIter_enum he h
def iEnumT (K : PySem.W.Frag) (ta : TA) : TI := fun σ H R => ta σ H fun vs H1 => ∃ a xs, vs = [.ref a] ∧ SqT K H1 a xs ∧ R (IteT K a) H1
theorem pi_enumT {X : Cx} {e : Expr} {ta : TA} {p pos tpos : Pos} {elts : List Expr} {kk : Nat} (hg : Gl X "enumerate") (hm : X.mg "enumerate" = none) (ha : PA X [e] ta) (hs : starEach [e] X.env = [(false, eval e X.env)] := by rfl) :
    PI X (.Tuple elts kk tpos) (.Call (.Name "enumerate" p) [e] [] pos) (iEnumT X.K ta) := by
  constructor
  intro pins s σ H R I h
  refine Call_ (ld_blt I hg hm boot_enumerate (PyProof.Rows.callWith_type1 (thn (ha.run pos pins s σ H _ I h) ?_) hs rfl))
  rintro us s1 ⟨vs, H1, I1, r1, a, xs, rfl, hq, q⟩
  cases r1 with
  | cons r rr =>
    cases rr
    cases r
    obtain ⟨its, rv, tu, hz⟩ := I1.tuple hq
    have al : a < s1.heap.objs.size := by obtain ⟨o, e, _⟩ := tu; exact Heap.lt_size e
    refine enum1_begins (begins_tuple a its.toArray) tu fun h' he hit hk => wpAny_pyIter_enum he ?_
    have I2 : Inv X pins σ H1 { s1 with heap := h' } := I1.kept (t' := s1.toks) hk
    refine ⟨s1.heap.objs.size + 1, [s1.heap.objs.size + 1, s1.heap.objs.size], _, _, H1, rfl, I2, turn_enumT a (s1.heap.objs.size + 1) s1.heap.objs.size, ⟨⟨.none, he⟩, ⟨_, hit, rfl, rfl⟩, Nat.succ_ne_self _, Nat.ne_of_lt al, (Nat.ne_of_lt (Nat.lt_succ_of_lt al)).symm⟩, fun b hb => ?_, q⟩
    have hle : s1.heap.objs.size ≤ b := by
      rcases (show b = s1.heap.objs.size + 1 ∨ b = s1.heap.objs.size by simpa using hb) with z | z
      · rw [z]; exact Nat.le_add_right _ _
      · rw [z]; exact Nat.le_refl _
    exact I1.fpOk hle (I1.hok.fresh hle)
theorem for_enumT {g : TG} {tb : TS} {D : Ends} {σ : L2.St} {H : Hp} {K : PySem.W.Frag} {a : Addr} {xs : List V} (Pv : Nat → L2.St → Hp → Prop) (h0 : Pv 0 σ H) (hl : ∀ i σ' H', i ≤ xs.length → Pv i σ' H' → SqT K H' a xs)
    (hs : ∀ i x σ' H' T, xs[i]? = some x → Pv i σ' H' → H' T = none → g (.ref T) σ' (upd H' T (.tup [.int (i : Nat), x])) fun σ2 H2 => tb { D with nx := Pv (i + 1), ct := Pv (i + 1), bk := D.nx } σ2 H2) (hd : ∀ σ' H', Pv xs.length σ' H' → D.nx σ' H') : forK g tb D σ (IteT K a) H := by
  refine ⟨fun i m σ H => i ≤ xs.length ∧ m = xs.length - i ∧ Pv i σ H, ⟨xs.length, Nat.zero_le _, by omega, h0⟩, ?_⟩
  rintro i m σ H ⟨hi, rfl, p⟩
  have hq := hl i σ H hi p
  rcases Nat.lt_or_ge i xs.length with h | h
  · refine Or.inr ⟨⟨xs, xs[i], hq, List.getElem?_eq_getElem h⟩, Pv (i + 1), fun σ' H' p' => ⟨xs.length - (i + 1), by omega, by omega, rfl, p'⟩, ?_⟩
    rintro v H' ⟨T, x, rfl, hT, rfl, hx⟩
    exact hs i x σ H T (hx xs hq) p hT
  · have e : i = xs.length := by omega
    subst e
    exact Or.inl ⟨⟨xs, hq, Nat.le_refl _⟩, hd σ H p⟩
end Mine
namespace Mine
open PySem PySem.Spec PyProof.Rows L2
open Evl (Ex)
structure FHeaps (K : PySem.W.Frag) : Prop where
  cl : Cls K (He.ga K "Heaps")
  na : NoAttr K (He.ga K "Heaps") "_sizes"
def hfs (t : Addr) : List (Str × V) := putF "_sizes" (.ref t) []
theorem hfs_get (t : Addr) : (hfs t).lookup ("_sizes" : Str) = some (.ref t) := by
  unfold hfs
  rw [lookup_putF, if_pos rfl]
theorem hfs_no (t : Addr) {m : Str} (h : ¬ m = "_sizes") : (hfs t).lookup m = none := by
  unfold hfs
  rw [lookup_putF, if_neg h]
  rfl
/-- a board of heaps -/
def HpAt (K : PySem.W.Frag) (H : Hp) (b : Addr) (ns : List Int) : Prop := ∃ dx t, H b = some (.ins (He.ga K "Heaps") dx (hfs t)) ∧ H t = some (.tup (ns.map V.int))
theorem HpAt.ex {K : PySem.W.Frag} {H H' : Hp} {b : Addr} {ns : List Int} (h : HpAt K H b ns) (e : Ex H H') : HpAt K H' b ns := let ⟨dx, t, h1, h2⟩ := h; ⟨dx, t, e _ _ h1, e _ _ h2⟩
def OkS (ns : List Int) : Prop := ns.length ≤ 8 ∧ ∀ z ∈ ns, 0 ≤ z ∧ z ≤ 30
end Mine
namespace Mine
open PySem PySem.Spec PyProof.Rows L2
open Evl (Ex)
/-- the sizes behind the moves, in order -/
def mvAt (ns : List Int) (i : Nat) : List (List Int) := (List.range (ns.getD i 0).toNat).map fun (j : Nat) => ns.take i ++ [(ns.getD i 0) - 1 - (j : Int)] ++ ns.drop (i + 1)
def mvs (ns : List Int) : List (List Int) := (List.range ns.length).flatMap (mvAt ns)
/-- boards of heaps of these sizes -/
def BsAt (K : PySem.W.Frag) (H : Hp) (xs : List V) (ss : List (List Int)) : Prop := xs.length = ss.length ∧ ∀ (i : Nat) (s : List Int), ss[i]? = some s → ∃ b, xs[i]? = some (.ref b) ∧ HpAt K H b s
theorem BsAt.ex {K : PySem.W.Frag} {H H' : Hp} {xs : List V} {ss : List (List Int)} (h : BsAt K H xs ss) (e : Ex H H') : BsAt K H' xs ss := ⟨h.1, fun i s q => let ⟨b, h1, h2⟩ := h.2 i s q; ⟨b, h1, h2.ex e⟩⟩
theorem BsAt.keep {K : PySem.W.Frag} {H H' : Hp} {xs : List V} {ss : List (List Int)} (h : BsAt K H xs ss) (k : ∀ c o, H c = some o → (∀ ys, o ≠ .lst ys) → H' c = some o) : BsAt K H' xs ss :=
  ⟨h.1, fun i s q => let ⟨b, h1, dx, t, h2, h3⟩ := h.2 i s q; ⟨b, h1, dx, t, k _ _ h2 (fun ys z => by cases z), k _ _ h3 (fun ys z => by cases z)⟩⟩
theorem BsAt.snoc {K : PySem.W.Frag} {H : Hp} {xs : List V} {ss : List (List Int)} {b : Addr} {s : List Int} (h : BsAt K H xs ss) (hb : HpAt K H b s) : BsAt K H (xs ++ [.ref b]) (ss ++ [s]) := by
  refine ⟨by rw [List.length_append, List.length_append, h.1]; rfl, fun i s' q => ?_⟩
  rcases Nat.lt_or_ge i ss.length with l | l
  · rw [List.getElem?_append_left l] at q
    obtain ⟨b', h1, h2⟩ := h.2 i s' q
    exact ⟨b', by rw [List.getElem?_append_left (by rw [h.1]; exact l)]; exact h1, h2⟩
  · have l2 := (List.getElem?_eq_some_iff.mp q).1
    rw [List.length_append, List.length_singleton] at l2
    have e : i = ss.length := by omega
    subst e
    rw [List.getElem?_append_right (Nat.le_refl _), Nat.sub_self] at q
    have e2 : s = s' := by injection q
    subst e2
    exact ⟨b, by rw [← h.1, List.getElem?_append_right (Nat.le_refl _), Nat.sub_self]; rfl, hb⟩
theorem okS_mv {ns : List Int} (ok : OkS ns) {i : Nat} (hi : i < ns.length) {j : Nat} (hj : j < (ns.getD i 0).toNat) : OkS (ns.take i ++ [(ns.getD i 0) - 1 - (j : Int)] ++ ns.drop (i + 1)) := by
  have hz : ns.getD i 0 ∈ ns := by
    rw [List.getD_eq_getElem?_getD, List.getElem?_eq_getElem hi]
    exact List.getElem_mem hi
  have bz := ok.2 _ hz
  refine ⟨?_, fun z m => ?_⟩
  · have := ok.1
    rw [List.length_append, List.length_append, List.length_take, List.length_drop, List.length_singleton]
    omega
  · rcases List.mem_append.mp m with m | m
    · rcases List.mem_append.mp m with m | m
      · exact ok.2 z (List.mem_of_mem_take m)
      · rw [List.mem_singleton.mp m]; omega
    · exact ok.2 z (List.mem_of_mem_drop m)
end Mine
namespace Mine
open PySem PySem.Spec PyProof.Rows L2
section
variable {σ : L2.St} {H : Hp} {K : PySem.W.Frag}
theorem k_star {te : TE} {t : TA} {Q : List V → Hp → Prop} (q : te σ H fun y H1 => ∃ a xs, y = V.ref a ∧ (SqT K H1 a xs ∨ SqL K H1 a xs) ∧ t σ H1 fun vs H2 => Q (xs ++ vs) H2) : StX.tStar K te t σ H Q := q
theorem k_enumT {ta : TA} {R : It → Hp → Prop} (q : ta σ H fun vs H1 => ∃ a xs, vs = [.ref a] ∧ SqT K H1 a xs ∧ R (IteT K a) H1) : iEnumT K ta σ H R := q
end
end Mine
namespace Mine
open PySem PySem.Spec PyProof.Rows L2
open Evl (Ex)
theorem k_slA {K : PySem.W.Frag} {H : Hp} {Q : VK} {a : Addr} {xs : List V} {lo hi : Option Int} (h : SqT K H a xs) (q : ∀ p H', Ex H H' → SqT K H' p (cutV xs lo hi) → Q (.ref p) H') : rSlA K (.ref a) lo hi H Q := by
  refine ⟨a, xs, rfl, h, fun w => q a H (Evl.Ex.refl H) ?_, fun _ p n => q p _ (Evl.Ex.new n) (k_st upd_same)⟩
  have e : cutV xs lo hi = xs := by
    unfold cutV
    rw [w.1, w.2, List.drop_zero, Nat.sub_zero, List.take_of_length_le (Nat.le_refl _)]
  rw [e]; exact h
theorem cut_to {ns : List Int} {i : Nat} (h : i ≤ ns.length) : cutV (ns.map V.int) none (some (i : Int)) = (ns.take i).map V.int := by
  unfold cutV
  rw [HT.sIx_none, HT.sIx_nat, List.length_map, Nat.min_eq_left h, List.drop_zero, Nat.sub_zero, List.map_take]
theorem cut_on {ns : List Int} {i : Nat} (h : i ≤ ns.length) : cutV (ns.map V.int) (some (i : Int)) none = (ns.drop i).map V.int := by
  unfold cutV
  rw [HT.sIx_none, HT.sIx_nat, List.length_map, Nat.min_eq_left h, List.take_of_length_le (by rw [List.length_drop, List.length_map]; exact Nat.le_refl _), List.map_drop]
end Mine
namespace Mine
open PySem PySem.Spec PyProof.Rows L2
open Evl (Ex)
theorem k_slH {K : PySem.W.Frag} {H : Hp} {Q : VK} {a : Addr} {xs : List V} {lo hi : Option Int} (h : H a = some (.tup xs)) (q : ∀ p H', Ex H H' → H' p = some (.tup (cutV xs lo hi)) → Q (.ref p) H') : rSlA K (.ref a) lo hi H Q := by
  refine ⟨a, xs, rfl, k_st h, fun w => q a H (Evl.Ex.refl H) ?_, fun _ p n => q p _ (Evl.Ex.new n) upd_same⟩
  have e : cutV xs lo hi = xs := by
    unfold cutV
    rw [w.1, w.2, List.drop_zero, Nat.sub_zero, List.take_of_length_le (Nat.le_refl _)]
  rw [e]; exact h
theorem k_catH {K : PySem.W.Frag} {H : Hp} {Q : VK} {a b : Addr} {xs ys : List V} (h1 : H a = some (.tup xs)) (h2 : H b = some (.tup ys)) (l : xs.length + ys.length ≤ sizeLine) (q : ∀ p H', Ex H H' → H' p = some (.tup (xs ++ ys)) → Q (.ref p) H') : rCatA K (.ref a) (.ref b) H Q :=
  ⟨a, b, xs, ys, rfl, rfl, k_st h1, k_st h2, l, fun e => q b H (Evl.Ex.refl H) (by rw [e]; exact h2), fun _ e => q a H (Evl.Ex.refl H) (by rw [e, List.append_nil]; exact h1), fun _ _ p n => q p _ (Evl.Ex.new n) upd_same⟩
/-- the pairs that are due -/
def DuP (H : Hp) (d : Addr) (s : List Int) : Prop := ∃ u, H d = some (.tup [.str "heaps", .ref u]) ∧ H u = some (.tup (s.map V.int))
theorem DuP.ex {H H' : Hp} {d : Addr} {s : List Int} (h : DuP H d s) (e : Ex H H') : DuP H' d s := let ⟨u, h1, h2⟩ := h; ⟨u, e _ _ h1, e _ _ h2⟩
def DsAt (H : Hp) (xs : List V) (ss : List (List Int)) : Prop := xs.length = ss.length ∧ ∀ (i : Nat) (s : List Int), ss[i]? = some s → ∃ b, xs[i]? = some (.ref b) ∧ DuP H b s
theorem DsAt.ex {H H' : Hp} {xs : List V} {ss : List (List Int)} (h : DsAt H xs ss) (e : Ex H H') : DsAt H' xs ss := ⟨h.1, fun i s q => let ⟨b, h1, h2⟩ := h.2 i s q; ⟨b, h1, h2.ex e⟩⟩
theorem DsAt.keep {H H' : Hp} {xs : List V} {ss : List (List Int)} (h : DsAt H xs ss) (k : ∀ c o, H c = some o → (∀ ys, o ≠ .lst ys) → H' c = some o) : DsAt H' xs ss :=
  ⟨h.1, fun i s q => let ⟨b, h1, u, h2, h3⟩ := h.2 i s q; ⟨b, h1, u, k _ _ h2 (fun ys z => by cases z), k _ _ h3 (fun ys z => by cases z)⟩⟩
theorem DsAt.snoc {H : Hp} {xs : List V} {ss : List (List Int)} {b : Addr} {s : List Int} (h : DsAt H xs ss) (hb : DuP H b s) : DsAt H (xs ++ [.ref b]) (ss ++ [s]) := by
  refine ⟨by rw [List.length_append, List.length_append, h.1]; rfl, fun i s' q => ?_⟩
  rcases Nat.lt_or_ge i ss.length with l | l
  · rw [List.getElem?_append_left l] at q
    obtain ⟨b', h1, h2⟩ := h.2 i s' q
    exact ⟨b', by rw [List.getElem?_append_left (by rw [h.1]; exact l)]; exact h1, h2⟩
  · have l2 := (List.getElem?_eq_some_iff.mp q).1
    rw [List.length_append, List.length_singleton] at l2
    have e : i = ss.length := by omega
    subst e
    rw [List.getElem?_append_right (Nat.le_refl _), Nat.sub_self] at q
    have e2 : s = s' := by injection q
    subst e2
    exact ⟨b, by rw [← h.1, List.getElem?_append_right (Nat.le_refl _), Nat.sub_self]; rfl, hb⟩
end Mine
namespace Mine
open PySem PySem.Spec PyProof.Rows L2
open Evl (Ex)
/-- a new object, by the name of the heap that holds it -/
theorem upd_ex {H : Hp} {p : Addr} {o : HO} (np : H p = none) : ∃ H', upd H p o = H' ∧ Ex H H' ∧ H' p = some o := ⟨_, rfl, Evl.Ex.new np, upd_same⟩
theorem nx {H H' : Hp} {p : Addr} {o : HO} (np : H p = none) (h : upd H p o = H') : Ex H H' := h ▸ Evl.Ex.new np
theorem nS {H H' : Hp} {p : Addr} {o : HO} (h : upd H p o = H') : H' p = some o := h ▸ upd_same
section
variable {H : Hp} {K : PySem.W.Frag} {Q : VK}
theorem n_sl {a : Addr} {xs : List V} {lo hi : Option Int} (h : SqL K H a xs) (q : ∀ p H', H p = none → Ex H H' → H' p = some (.lst (cutV xs lo hi)) → Q (.ref p) H') : rSlL K (.ref a) lo hi H Q :=
  k_slL h fun p np => q p _ np (Evl.Ex.new np) upd_same
theorem n_cat {a b : Addr} {xs ys : List V} (h1 : H a = some (.lst xs)) (h2 : H b = some (.lst ys)) (l : xs.length + ys.length ≤ sizeLine) (q : ∀ p H', H p = none → Ex H H' → H' p = some (.lst (xs ++ ys)) → Q (.ref p) H') : rCat (.ref a) (.ref b) H Q :=
  k_rCat h1 h2 l fun p np => q p _ np (Evl.Ex.new np) upd_same
theorem n_rep {a : Addr} {k : Int} {xs : List V} (h : H a = some (.lst xs)) (b1 : -(2 ^ 63) ≤ k) (b2 : k < 2 ^ 63) (l : xs.length * k.toNat ≤ sizeLine) (q : ∀ p H', H p = none → Ex H H' → H' p = some (.lst (List.replicate k.toNat xs).flatten) → Q (.ref p) H') : rRep (.ref a) (.int k) H Q :=
  ⟨a, k, xs, rfl, rfl, h, b1, b2, l, fun p np => q p _ np (Evl.Ex.new np) upd_same⟩
theorem n_tupL {a : Addr} {xs : List V} (h : SqL K H a xs) (q : ∀ p H', H p = none → Ex H H' → H' p = some (.tup xs) → Q (.ref p) H') : rTupL K [.ref a] H Q :=
  k_rTupL h fun p np => q p _ np (Evl.Ex.new np) upd_same
theorem n_listL {a : Addr} {xs : List V} (h : SqL K H a xs) (q : ∀ p H', H p = none → Ex H H' → H' p = some (.lst xs) → Q (.ref p) H') : rListQ K [.ref a] H Q :=
  k_rListL h fun p np => q p _ np (Evl.Ex.new np) upd_same
theorem n_listT {a : Addr} {xs : List V} (h : SqT K H a xs) (q : ∀ p H', H p = none → Ex H H' → H' p = some (.lst xs) → Q (.ref p) H') : rListQ K [.ref a] H Q :=
  k_rListT h fun p np => q p _ np (Evl.Ex.new np) upd_same
theorem fits {n : Nat} (h : n ≤ 3000) : n ≤ sizeLine := Nat.le_trans h (by decide)
theorem fits' {n : Nat} (h : n ≤ 3000) : n < sizeLine := Nat.lt_of_le_of_lt h (by decide)
end
theorem cut_cut {xs : List V} {i : Nat} (h : i ≤ xs.length) : cutV xs none (some (i : Int)) = xs.take i := by
  unfold cutV
  rw [HT.sIx_none, HT.sIx_nat, Nat.min_eq_left h, List.drop_zero, Nat.sub_zero]
theorem cut_all {xs : List V} {i : Nat} (h : xs.length ≤ i) : cutV xs none (some (i : Int)) = xs := by
  unfold cutV
  rw [HT.sIx_none, HT.sIx_nat, Nat.min_eq_right h, List.drop_zero, Nat.sub_zero, List.take_of_length_le (Nat.le_refl _)]
theorem cut_min {xs : List V} {i : Nat} : cutV xs none (some (i : Int)) = xs.take i := by
  rcases Nat.le_total i xs.length with h | h
  · exact cut_cut h
  · rw [cut_all h, List.take_of_length_le h]
theorem cut_off {xs : List V} {i : Nat} (h : i ≤ xs.length) : cutV xs (some (i : Int)) none = xs.drop i := by
  unfold cutV
  rw [HT.sIx_none, HT.sIx_nat, Nat.min_eq_left h, List.take_of_length_le (by rw [List.length_drop]; exact Nat.le_refl _)]
end Mine
namespace Mine
open PySem PySem.Spec PyProof.Rows L2
open Evl (Ex)
/-- one turn makes an item with a property -/
def turnQ (g : TG) (tt : TT) (te : TE) (vs : List Nat) (σ : L2.St) (x : V) (P : V → Hp → Prop) (H1 : Hp) : Prop := ∀ H', Ex H1 H' → ∀ R : Option V → Hp → Prop, (∀ y H'', Ex H' H'' → P y H'' → R (some y) H'') →
  g x (wipe σ vs) H' fun σ2 H2 => wipe σ2 vs = wipe σ vs ∧ tt σ2 H2 fun b H3 => if b = true then te σ2 H3 fun y H4 => R (some y) H4 else R none H3
/-- what holds of an item while nothing but lists changes -/
def Lasts (P : V → V → Hp → Prop) : Prop := ∀ (x y : V) (H H' : Hp), P x y H → (∀ c o, H c = some o → (∀ ys, o ≠ .lst ys) → H' c = some o) → P x y H'
section
variable {g : TG} {tt : TT} {te : TE} {vs : List Nat} {σ : L2.St} {Q : VK} {H1 : Hp} {K : PySem.W.Frag}
theorem turnQ_in {x : V} {P : V → Hp → Prop} {D : Addr} {acc : List V} {H : Hp} {Nx : Hp → Prop} (t : turnQ g tt te vs σ x P H1) (e : Ex H1 H) (hD : H1 D = none) (a : H D = some (.lst acc)) (len : acc.length < sizeLine)
    (nx : ∀ y H2 H', Ex H H2 → P y H2 → Ex H1 H' → H' D = some (.lst (acc ++ [y])) → (∀ c o, H2 c = some o → (∀ ys, o ≠ .lst ys) → H' c = some o) → Nx H') :
    g x (wipe σ vs) H fun σ2 H2 => wipe σ2 vs = wipe σ vs ∧ tt σ2 H2 fun b H3 => if b = true then te σ2 H3 fun y H4 => ∃ acc, H4 D = some (.lst acc) ∧ acc.length < sizeLine ∧ Nx (upd H4 D (.lst (acc ++ [y]))) else Nx H3 := by
  have no : ∀ o' : Option V, o' = none → ∀ H4 : Hp, True := fun _ _ _ => trivial
  refine (fun z => ?_) (t H e (fun o' H4 => match o' with | some y => ∃ acc, H4 D = some (.lst acc) ∧ acc.length < sizeLine ∧ Nx (upd H4 D (.lst (acc ++ [y]))) | none => Nx H4) fun y H'' e2 p => ?_)
  · exact z
  · refine ⟨acc, e2 _ _ a, len, nx y H'' _ e2 p (Evl.Ex.mut (e.trans e2) hD) upd_same fun c o q n => (upd_ne fun z => ?_).trans q⟩
    rw [z, e2 _ _ a] at q
    exact n _ (Option.some.inj q).symm
theorem lcQ_tup {a : Addr} {xs : List V} (P : V → V → Hp → Prop) (La : Lasts P) (hS : SqT K H1 a xs) (len : xs.length < sizeLine) (t : ∀ (i : Nat) (x : V), xs[i]? = some x → turnQ g tt te vs σ x (P x) H1)
    (q : ∀ D ys H', H1 D = none → Ex H1 H' → H' D = some (.lst ys) → ys.length = xs.length → (∀ (i : Nat) (x : V), xs[i]? = some x → ∃ y, ys[i]? = some y ∧ P x y H') → Q (.ref D) H') : lcR g tt te vs σ Q (Itt K a) H1 := by
  intro D hD
  refine lc_tup (K := K) (a := a) (xs := xs) (fun i H => ∃ ys, Ex H1 H ∧ H D = some (.lst ys) ∧ ys.length = i ∧ ∀ (j : Nat) (x : V), j < i → xs[j]? = some x → ∃ y, ys[j]? = some y ∧ P x y H) ⟨[], Evl.Ex.new hD, upd_same, rfl, fun j x h => absurd h (Nat.not_lt_zero _)⟩ (fun i H _ ⟨_, e, _⟩ => Evl.ex_t e hS) (fun i x H hx p => ?_) (fun H p => ?_)
  · obtain ⟨ys, e, hd, yl, ok⟩ := p
    have hi := (List.getElem?_eq_some_iff.mp hx).1
    refine turnQ_in (t i x hx) e hD hd (by omega) fun y H2 H' e2 py e' hd' kp => ⟨ys ++ [y], e', hd', by rw [List.length_append, yl]; rfl, fun j x' hj hx' => ?_⟩
    rcases Nat.lt_or_ge j i with l | l
    · obtain ⟨y', h1, h2⟩ := ok j x' l hx'
      exact ⟨y', by rw [List.getElem?_append_left (by omega)]; exact h1, La _ _ _ _ h2 fun c o q n => kp c o (e2 _ _ q) n⟩
    · have ej : j = i := by omega
      subst ej
      rw [hx] at hx'
      injection hx' with hx'
      subst hx'
      exact ⟨y, by rw [← yl, List.getElem?_append_right (Nat.le_refl _), Nat.sub_self]; rfl, La _ _ _ _ py kp⟩
  · obtain ⟨ys, e, hd, yl, ok⟩ := p
    exact q D ys H hD e hd yl fun i x hx => ok i x (List.getElem?_eq_some_iff.mp hx).1 hx
theorem lcQ_list {a : Addr} {xs : List V} (P : V → V → Hp → Prop) (La : Lasts P) (hS : SqL K H1 a xs) (len : xs.length < sizeLine) (t : ∀ (i : Nat) (x : V), xs[i]? = some x → turnQ g tt te vs σ x (P x) H1)
    (q : ∀ D ys H', H1 D = none → Ex H1 H' → H' D = some (.lst ys) → ys.length = xs.length → (∀ (i : Nat) (x : V), xs[i]? = some x → ∃ y, ys[i]? = some y ∧ P x y H') → Q (.ref D) H') : lcR g tt te vs σ Q (Itl K a) H1 := by
  intro D hD
  refine lc_list (K := K) (a := a) (xs := xs) (fun i H => ∃ ys, Ex H1 H ∧ H D = some (.lst ys) ∧ ys.length = i ∧ ∀ (j : Nat) (x : V), j < i → xs[j]? = some x → ∃ y, ys[j]? = some y ∧ P x y H) ⟨[], Evl.Ex.new hD, upd_same, rfl, fun j x h => absurd h (Nat.not_lt_zero _)⟩ (fun i H _ ⟨_, e, _⟩ => Evl.ex_l e hS) (fun i x H hx p => ?_) (fun H p => ?_)
  · obtain ⟨ys, e, hd, yl, ok⟩ := p
    have hi := (List.getElem?_eq_some_iff.mp hx).1
    refine turnQ_in (t i x hx) e hD hd (by omega) fun y H2 H' e2 py e' hd' kp => ⟨ys ++ [y], e', hd', by rw [List.length_append, yl]; rfl, fun j x' hj hx' => ?_⟩
    rcases Nat.lt_or_ge j i with l | l
    · obtain ⟨y', h1, h2⟩ := ok j x' l hx'
      exact ⟨y', by rw [List.getElem?_append_left (by omega)]; exact h1, La _ _ _ _ h2 fun c o q n => kp c o (e2 _ _ q) n⟩
    · have ej : j = i := by omega
      subst ej
      rw [hx] at hx'
      injection hx' with hx'
      subst hx'
      exact ⟨y, by rw [← yl, List.getElem?_append_right (Nat.le_refl _), Nat.sub_self]; rfl, La _ _ _ _ py kp⟩
  · obtain ⟨ys, e, hd, yl, ok⟩ := p
    exact q D ys H hD e hd yl fun i x hx => ok i x (List.getElem?_eq_some_iff.mp hx).1 hx
/-- a plain item: no test, one name -/
theorem turnQ_map {i : Nat} {x : V} {P : V → Hp → Prop} (h : ∀ H', Ex H1 H' → ∀ R : VK, (∀ y H'', Ex H' H'' → P y H'' → R y H'') → te ((wipe σ [i]).set i (some x)) H' R) (w : wipe ((wipe σ [i]).set i (some x)) [i] = wipe σ [i] := by rfl) : turnQ (gName i) tYes te [i] σ x P H1 :=
  fun H' e R r => ⟨w, h H' e _ fun y H'' e2 p => r y H'' e2 p⟩
end
end Mine
namespace Mine
open PySem PySem.Spec PyProof.Rows L2
open Evl (Ex)
section
variable {g : TG} {tt : TT} {te : TE} {vs : List Nat} {σ : L2.St} {Q : VK} {H1 : Hp} {K : PySem.W.Frag}
theorem lcQ_rng {lo : Int} {n : Nat} (P : Nat → V → Hp → Prop) (La : ∀ (i : Nat) (y : V) (H H' : Hp), P i y H → (∀ c o, H c = some o → (∀ ys, o ≠ .lst ys) → H' c = some o) → P i y H') (len : n < sizeLine) (t : ∀ i, i < n → turnQ g tt te vs σ (.int (lo + (i : Int))) (P i) H1)
    (q : ∀ D ys H', H1 D = none → Ex H1 H' → H' D = some (.lst ys) → ys.length = n → (∀ (i : Nat), i < n → ∃ y, ys[i]? = some y ∧ P i y H') → Q (.ref D) H') : lcR g tt te vs σ Q (Itr lo n) H1 := by
  intro D hD
  refine lc_range (lo := lo) (n := n) (fun i H => ∃ ys, Ex H1 H ∧ H D = some (.lst ys) ∧ ys.length = i ∧ ∀ (j : Nat), j < i → ∃ y, ys[j]? = some y ∧ P j y H) ⟨[], Evl.Ex.new hD, upd_same, rfl, fun j h => absurd h (Nat.not_lt_zero _)⟩ (fun i H hi p => ?_) (fun H p => ?_)
  · obtain ⟨ys, e, hd, yl, ok⟩ := p
    refine turnQ_in (t i hi) e hD hd (by omega) fun y H2 H' e2 py e' hd' kp => ⟨ys ++ [y], e', hd', by rw [List.length_append, yl]; rfl, fun j hj => ?_⟩
    rcases Nat.lt_or_ge j i with l | l
    · obtain ⟨y', h1, h2⟩ := ok j l
      exact ⟨y', by rw [List.getElem?_append_left (by omega)]; exact h1, La _ _ _ _ h2 fun c o q n => kp c o (e2 _ _ q) n⟩
    · have ej : j = i := by omega
      subst ej
      exact ⟨y, by rw [← yl, List.getElem?_append_right (Nat.le_refl _), Nat.sub_self]; rfl, La _ _ _ _ py kp⟩
  · obtain ⟨ys, e, hd, yl, ok⟩ := p
    exact q D ys H hD e hd yl ok
end
end Mine
namespace Mine
open PySem PySem.Spec PyProof.Rows L2
open Evl (Ex)
/-! a law's own list of forms: refs to pairs of lists of ints -/
/-- all but the addresses of Z stays -/
def Keep (Z : Addr → Prop) (H H' : Hp) : Prop := ∀ c o, H c = some o → ¬ Z c → H' c = some o
theorem Keep.of {Z : Addr → Prop} {H H' : Hp} (e : Ex H H') : Keep Z H H' := fun c o h _ => e c o h
theorem Keep.trans {Z : Addr → Prop} {H H1 H2 : Hp} (a : Keep Z H H1) (b : Keep Z H1 H2) : Keep Z H H2 := fun c o h n => b c o (a c o h n) n
def FormAt (Z : Addr → Prop) (H : Hp) (a : Addr) (g : Pr) : Prop := ∃ c d, H a = some (.tup [.ref c, .ref d]) ∧ H c = some (.lst (g.1.map V.int)) ∧ H d = some (.lst (g.2.map V.int)) ∧ ¬ Z c ∧ ¬ Z d
def FormsAt (Z : Addr → Prop) (H : Hp) (xs : List V) (G : List Pr) : Prop := xs.length = G.length ∧ ∀ (i : Nat) (g : Pr), G[i]? = some g → ∃ a, xs[i]? = some (.ref a) ∧ FormAt Z H a g
def ModAt (Z : Addr → Prop) (H : Hp) (m : Addr) (G : List Pr) : Prop := ∃ xs, H m = some (.lst xs) ∧ FormsAt Z H xs G
theorem FormAt.keep {Z : Addr → Prop} {H H' : Hp} {a : Addr} {g : Pr} (f : FormAt Z H a g) (k : Keep Z H H') (t : ∀ c ys, H c = some (.tup ys) → H' c = some (.tup ys)) : FormAt Z H' a g :=
  let ⟨c, d, h1, h2, h3, z1, z2⟩ := f
  ⟨c, d, t _ _ h1, k _ _ h2 z1, k _ _ h3 z2, z1, z2⟩
theorem FormsAt.keep {Z : Addr → Prop} {H H' : Hp} {xs : List V} {G : List Pr} (f : FormsAt Z H xs G) (k : Keep Z H H') (t : ∀ c ys, H c = some (.tup ys) → H' c = some (.tup ys)) : FormsAt Z H' xs G :=
  ⟨f.1, fun i g h => let ⟨a, h1, h2⟩ := f.2 i g h; ⟨a, h1, h2.keep k t⟩⟩
theorem FormsAt.ex {Z : Addr → Prop} {H H' : Hp} {xs : List V} {G : List Pr} (f : FormsAt Z H xs G) (e : Ex H H') : FormsAt Z H' xs G := f.keep (Keep.of e) fun c ys h => e _ _ h
theorem ModAt.up {Z : Addr → Prop} {H H' : Hp} {m : Addr} {G : List Pr} (f : ModAt Z H m G) (e : Ex H H') : ModAt Z H' m G := let ⟨xs, h1, h2⟩ := f; ⟨xs, e _ _ h1, h2.ex e⟩
/-- data of a form -/
def formD (g : Pr) : PyData := .tuple [.list (g.1.map .int), .list (g.2.map .int)]
theorem dp_ints {K : PySem.W.Frag} {H : Hp} : ∀ ns : List Int, DpAll K H (ns.map V.int) (ns.map .int)
  | [] => .nil
  | x :: xs => .cons (.int x) (dp_ints xs)
theorem FormAt.dp {K : PySem.W.Frag} {Z : Addr → Prop} {H : Hp} {a : Addr} {g : Pr} (f : FormAt Z H a g) : Dp K H (.ref a) (formD g) :=
  let ⟨c, d, h1, h2, h3, _⟩ := f
  .tup (k_st h1) (.cons (.lst (k_sq h2) (dp_ints _)) (.cons (.lst (k_sq h3) (dp_ints _)) .nil))
theorem eqv_form (g h : Pr) : PyData.eqv (formD g) (formD h) = decide (g = h) := by
  unfold formD
  simp only [PyData.eqv, PyData.eqvAll, PySem.W.ked_eqvAll]
  obtain ⟨a, b⟩ := g
  obtain ⟨c, d⟩ := h
  by_cases h1 : a = c <;> by_cases h2 : b = d <;> simp [h1, h2]
theorem lay_ints : ∀ ns : List Int, PyData.canLayAll0 (ns.map .int) = true
  | [] => rfl
  | x :: xs => by
    simp only [List.map_cons, PyData.canLayAll0, PyData.canLay0, lay_ints xs]
    rfl
theorem deep_ints : ∀ ns : List Int, PyData.depthAll (ns.map .int) = 0
  | [] => by simp only [List.map_nil, PyData.depthAll]
  | x :: xs => by simp only [List.map_cons, PyData.depthAll, PyData.depth, deep_ints xs]; rfl
theorem shaped_form (g : Pr) : SeqAt.shaped (formD g) = true := by
  unfold formD SeqAt.shaped
  simp only [PyData.canLay0, PyData.depth, PyData.canLayAll0, PyData.depthAll, lay_ints, deep_ints]
  rfl
theorem shaped_ints (ns : List Int) : SeqAt.shaped (.list (ns.map .int)) = true := by
  unfold SeqAt.shaped
  simp only [PyData.canLay0, PyData.depth, lay_ints, deep_ints]
  rfl
theorem eqv_ints (a b : List Int) : PyData.eqv (.list (a.map .int)) (.list (b.map .int)) = decide (a = b) := by
  simp only [PyData.eqv, PySem.W.ked_eqvAll]
/-- a list of two lists of ints -/
def twoD (g : Pr) : PyData := .list [.list (g.1.map .int), .list (g.2.map .int)]
theorem eqv_two (g h : Pr) : PyData.eqv (twoD g) (twoD h) = decide (g = h) := by
  unfold twoD
  simp only [PyData.eqv, PyData.eqvAll, PySem.W.ked_eqvAll]
  obtain ⟨a, b⟩ := g
  obtain ⟨c, d⟩ := h
  by_cases h1 : a = c <;> by_cases h2 : b = d <;> simp [h1, h2]
theorem shaped_two (g : Pr) : SeqAt.shaped (twoD g) = true := by
  unfold twoD SeqAt.shaped
  simp only [PyData.canLay0, PyData.depth, PyData.canLayAll0, PyData.depthAll, lay_ints, deep_ints]
  rfl
section
variable {K : PySem.W.Frag} {H : Hp} {Q : VK}
theorem k_eqF {Z Z' : Addr → Prop} {a b : Addr} {g h : Pr} (f1 : FormAt Z H a g) (f2 : FormAt Z' H b h) (q : Q (.bl (decide (g = h))) H) : rEqD K (.ref a) (.ref b) H Q :=
  ⟨formD g, formD h, f1.dp, f2.dp, shaped_form g, shaped_form h, by rw [eqv_form]; exact q⟩
theorem k_eqIs {a b : Addr} {g h : List Int} (f1 : SqL K H a (g.map V.int)) (f2 : SqL K H b (h.map V.int)) (q : Q (.bl (decide (g = h))) H) : rEqD K (.ref a) (.ref b) H Q :=
  ⟨_, _, .lst f1 (dp_ints g), .lst f2 (dp_ints h), shaped_ints g, shaped_ints h, by rw [eqv_ints]; exact q⟩
theorem k_neTwo {a b c d e f : Addr} {g h : Pr} (f1 : SqL K H a [.ref c, .ref d]) (f2 : SqL K H b [.ref e, .ref f]) (hc : SqL K H c (g.1.map V.int)) (hd : SqL K H d (g.2.map V.int)) (he : SqL K H e (h.1.map V.int)) (hf : SqL K H f (h.2.map V.int))
    (q : Q (.bl (!decide (g = h))) H) : rNeD K (.ref a) (.ref b) H Q :=
  ⟨twoD g, twoD h, .lst f1 (.cons (.lst hc (dp_ints _)) (.cons (.lst hd (dp_ints _)) .nil)), .lst f2 (.cons (.lst he (dp_ints _)) (.cons (.lst hf (dp_ints _)) .nil)), shaped_two g, shaped_two h, by rw [eqv_two]; exact q⟩
end
section
variable {g : TG} {tt : TT} {te : TE} {vs : List Nat} {σ : L2.St} {Q : VK} {H1 : Hp} {K : PySem.W.Frag} {wi : TI}
theorem turn_flt {i : Nat} {x : V} {b : Bool} (h : ∀ H', Ex H1 H' → ∀ R : Bool → Hp → Prop, R b H' → tt ((wipe σ [i]).set i (some x)) H' R) (w : wipe ((wipe σ [i]).set i (some x)) [i] = wipe σ [i] := by rfl) (v : ((wipe σ [i]).set i (some x))[i]? = some (some x) := by rfl) :
    turnR (gName i) tt (tVar i) [i] σ x (if b = true then some x else none) H1 :=
  fun H' e R r => ⟨w, h H' e _ (by
    cases b
    · exact r H' (Evl.Ex.refl _)
    · exact ⟨x, v, r H' (Evl.Ex.refl _)⟩)⟩
/-- the members of a range that a test keeps -/
def kept (n : Nat) (p : Nat → Bool) : List Int := ((List.range n).filter p).map fun i : Nat => (i : Int)
theorem kept_map (n : Nat) (p : Nat → Bool) : (List.range n).filterMap (fun i => if p i = true then some (V.int (i : Int)) else none) = (kept n p).map V.int := by
  unfold kept
  induction (List.range n) with
  | nil => rfl
  | cons x xs ih =>
    rw [List.filterMap_cons, List.filter_cons]
    by_cases h : p x = true
    · rw [if_pos h, if_pos h, List.map_cons, List.map_cons, ← ih]
    · rw [if_neg h, if_neg h, ← ih]
theorem mem_kept {n : Nat} {p : Nat → Bool} {x : Int} : x ∈ kept n p ↔ ∃ i : Nat, x = i ∧ i < n ∧ p i = true := by
  unfold kept
  rw [List.mem_map]
  constructor
  · rintro ⟨i, h, rfl⟩
    rw [List.mem_filter, List.mem_range] at h
    exact ⟨i, rfl, h.1, h.2⟩
  · rintro ⟨i, rfl, h1, h2⟩
    exact ⟨i, by rw [List.mem_filter, List.mem_range]; exact ⟨h1, h2⟩, rfl⟩
theorem kept_asc (n : Nat) (p : Nat → Bool) : Asc n (kept n p) := by
  refine ⟨?_, fun x m => ?_⟩
  · unfold kept
    rw [List.pairwise_map]
    refine List.Pairwise.imp (fun h => Int.ofNat_lt.mpr h) (List.Pairwise.filter p ?_)
    first | exact List.pairwise_lt_range | exact List.pairwise_lt_range _
  · obtain ⟨i, rfl, h, _⟩ := mem_kept.mp m
    omega
theorem cut_ints (ls : List Int) (lo hi : Option Int) : ∃ l' : List Int, cutV (ls.map V.int) lo hi = l'.map V.int ∧ (∀ x ∈ l', x ∈ ls) ∧ l'.length ≤ ls.length := by
  unfold cutV
  refine ⟨(ls.drop _).take _, by rw [List.map_take, List.map_drop], fun x m => List.mem_of_mem_drop (List.mem_of_mem_take m), ?_⟩
  rw [List.length_take, List.length_drop]
  omega
theorem cut_last {ls : List Int} (h : ls ≠ []) : ∃ l' : List Int, cutV (ls.map V.int) (some (-3)) none = l'.map V.int ∧ (∀ x ∈ l', x ∈ ls) ∧ l' ≠ [] := by
  refine ⟨(ls.drop _).take _, by unfold cutV; rw [List.map_take, List.map_drop], fun x m => List.mem_of_mem_drop (List.mem_of_mem_take m), fun e => ?_⟩
  have hl : 0 < ls.length := List.length_pos_iff.mpr h
  have z := congrArg List.length e
  rw [List.length_take, List.length_drop, List.length_map, HT.sIx_none] at z
  have s : HT.sIx ls.length 0 (some (-3)) = (-3 + (ls.length : Int)).toNat := by
    show (if (-3 : Int) < 0 then (-3 + (ls.length : Int)).toNat else min (-3 : Int).toNat ls.length) = _
    rw [if_pos (by decide)]
  rw [s, List.length_nil] at z
  omega
theorem rng_map (n : Nat) (f : Nat → Int) : (List.range n).filterMap (fun i => some (V.int (f i))) = ((List.range n).map f).map V.int := by
  induction (List.range n) with
  | nil => rfl
  | cons x xs ih => rw [List.filterMap_cons, List.map_cons, List.map_cons, ← ih]
theorem atI_in {ls : List Int} {k : Int} (h0 : 0 ≤ k) (h1 : k < ls.length) : ∃ z, z ∈ ls ∧ atI (ls.map V.int) k = some (.int z) ∧ z = ls.getD k.toNat 0 := by
  obtain ⟨z, hz, e⟩ := at_int h0 h1
  exact ⟨z, List.mem_of_getElem? hz, e, by rw [List.getD_eq_getElem?_getD, hz]; rfl⟩
end
theorem dg_of {ds : List Int} (hd : ∀ d ∈ ds, 0 ≤ d ∧ d < 60) {k : Int} (h0 : 0 ≤ k) (hk : k < ds.length) : ∃ z, atI (ds.map V.int) k = some (.int z) ∧ (0 ≤ z ∧ z < 60) ∧ z = ds.getD k.toNat 0 := by
  obtain ⟨z, m, e, f⟩ := atI_in h0 hk
  exact ⟨z, e, hd z m, f⟩
/-- the height that a law reckons of a new game -/
def HgtL (G : List Pr) (hs : List Int) (p : Pr) (hs' : List Int) : Prop := (p ∈ G ∧ hs' = hs) ∨ (p ∉ G ∧ ∃ m, hs' = hs ++ [m] ∧ m ∈ (0 :: (p.1 ++ p.2).map fun k => 1 + hat hs k) ∧ ∀ y ∈ (0 :: (p.1 ++ p.2).map fun k => 1 + hat hs k), y ≤ m)
section
variable {P : Program} {w : World} {K : PySem.W.Frag} {H H' : Hp} {F : Foot} {G : List Pr} {hs : List Int} {ts : List (Key × V)}
theorem k_if2 {b : Bool} {x y : V} {σ : L2.St} {Q : VK} (q : ∀ v, v = x ∨ v = y → Q v H) : if b = true then tC x σ H Q else tC y σ H Q := by
  cases b
  · exact q y (Or.inr rfl)
  · exact q x (Or.inl rfl)
theorem k_revL {te : TE} {σ : L2.St} {Q : VK} (q : te σ H fun x H1 => ∃ a xs, x = .ref a ∧ SqL K H1 a xs ∧ ∀ p, H1 p = none → Q (.ref p) (upd H1 p (.lst xs.reverse))) : tRevL K te σ H Q := q
theorem sql_keep {Z : Addr → Prop} {a : Addr} {xs : List V} (h : SqL K H a xs) (k : Keep Z H H') (z : ∀ o, H a = some o → ¬ Z a) : SqL K H' a xs := by
  rcases h with (h | ⟨o, h⟩) | h
  · exact Or.inl (Or.inl (k _ _ h (z _ h)))
  · exact Or.inl (Or.inr ⟨o, k _ _ h (z _ h)⟩)
  · exact Or.inr h
/-- one list, not the yard's, is changed -/
theorem YardAt.but (Y : YardAt P w K H F G hs ts) {p : Addr} {ys : List V} (hp : H p = some (.lst ys)) (off : Off F p) (k : ∀ c o, H c = some o → c ≠ p → H' c = some o) : YardAt P w K H' F G hs ts := by
  obtain ⟨o1, o2, o3, o4, o5⟩ := off
  have t : ∀ c zs, H c = some (.tup zs) → H' c = some (.tup zs) := fun c zs z => k _ _ z (ne_of z hp (by intro y; cases y))
  exact ⟨k _ _ Y.ins (ne_of Y.ins hp (by intro y; cases y)), let ⟨xs, h1, h2⟩ := Y.ls; ⟨xs, k _ _ h1 o1.symm, h2.ex t⟩, let ⟨xs, h1, h2⟩ := Y.rs; ⟨xs, k _ _ h1 o2.symm, h2.ex t⟩, ⟨k _ _ Y.hs.1 o3.symm, Y.hs.2⟩,
    let ⟨kvs, h1, h2, h3⟩ := Y.ns; ⟨kvs, k _ _ h1 o4.symm, fun x m => (h2 x m).ex t, h3⟩, k _ _ Y.ts o5.symm, Y.ne, Y.ht, Y.G⟩
end
/-- 0, 1, .. below n -/
def nums (n : Nat) : List Int := (List.range n).map fun i : Nat => (i : Int)
theorem nums_len (n : Nat) : (nums n).length = n := by unfold nums; rw [List.length_map, List.length_range]
theorem nums_at {n : Nat} {k : Int} (h0 : 0 ≤ k) (h1 : k < n) : atI ((nums n).map V.int) k = some (V.int k) := by
  obtain ⟨z, hz, e⟩ := at_int (ns := nums n) h0 (by rw [nums_len]; exact h1)
  rw [e]
  unfold nums at hz
  rw [List.getElem?_map, List.getElem?_range (by omega)] at hz
  have hz : ((k.toNat : Nat) : Int) = z := Option.some.inj hz
  rw [← hz, show ((k.toNat : Nat) : Int) = k by omega]
theorem nums_succ (n : Nat) : nums (n + 1) = nums n ++ [(n : Int)] := by unfold nums; rw [List.range_succ, List.map_append]; rfl
theorem mem_nums {n : Nat} {k : Int} : k ∈ nums n ↔ 0 ≤ k ∧ k < n := by
  unfold nums
  rw [List.mem_map]
  constructor
  · rintro ⟨i, m, rfl⟩
    have := List.mem_range.mp m
    omega
  · rintro ⟨h0, h1⟩
    exact ⟨k.toNat, List.mem_range.mpr (by omega), by omega⟩
theorem onI_id (ns : List Int) : (ns.map V.int).filterMap (onI fun k => k) = ns.map V.int := by rw [onI_map, List.map_id']
theorem sorted_asc {l l' : List Int} (p : l'.Perm l) (le : l'.Pairwise (· ≤ ·)) (a : l.Pairwise (· < ·)) : l' = l := by
  have nd : l'.Nodup := p.nodup_iff.mpr (List.Pairwise.imp (fun h => Int.ne_of_lt h) a)
  exact asc_ext (lt_of_le_nodup l' le nd) a fun k => p.mem_iff
theorem k_sortA {K : PySem.W.Frag} {H : Hp} {Q : VK} {a : Addr} {ns : List Int} (h : SqL K H a (ns.map V.int)) (asc : ns.Pairwise (· < ·)) (q : ∀ p, H p = none → Q (.ref p) (upd H p (.lst (ns.map V.int)))) : rSortedI K [.ref a] H Q :=
  ⟨a, ns, rfl, h, fun ns' p pm le n => by rw [sorted_asc pm le asc]; exact q p n⟩
theorem nums_asc (n : Nat) : Asc n (nums n) := by
  refine ⟨?_, fun x m => mem_nums.mp m⟩
  unfold nums
  rw [List.pairwise_map]
  refine List.Pairwise.imp (fun h => Int.ofNat_lt.mpr h) ?_
  first | exact List.pairwise_lt_range | exact List.pairwise_lt_range _
theorem isHt_one {hs : List Int} {g : Pr} {h h' : Int} (a : IsHt hs g h) (b : IsHt hs g h') : h = h' := by
  rcases a with ⟨e, rfl⟩ | ⟨m, mm, ml, rfl⟩
  · rcases b with ⟨_, rfl⟩ | ⟨m', mm', _⟩
    · rfl
    · rw [e] at mm'; simp at mm'
  · rcases b with ⟨e, _⟩ | ⟨m', mm', ml', rfl⟩
    · rw [e] at mm; simp at mm
    · have h1 := ml m' mm'
      have h2 := ml' m mm
      omega
theorem ht_same {G G' : List Pr} {hs hs' : List Int} (o : HtOk G hs) (o' : HtOk G' hs') (sub : ∀ (i : Nat) (g : Pr), G[i]? = some g → G'[i]? = some g) (f : Forms G) : ∀ (n i : Nat), i < n → i < G.length → hat hs i = hat hs' i := by
  intro n
  induction n with
  | zero => intro i h; exact absurd h (Nat.not_lt_zero _)
  | succ n ih =>
    intro i hi hl
    have hg := List.getElem?_eq_getElem hl
    have a := o i _ hg
    have b := o' i _ (sub i _ hg)
    obtain ⟨a1, a2⟩ := f.asc i _ hg
    have e : (G[i].1 ++ G[i].2).map (hat hs) = (G[i].1 ++ G[i].2).map (hat hs') := by
      refine List.map_congr_left fun k m => ?_
      have bk := Asc.both a1 a2 k m
      have := ih k.toNat (by omega) (by omega)
      rw [show ((k.toNat : Nat) : Int) = k by omega] at this
      exact this
    unfold IsHt at b
    rw [← e] at b
    exact isHt_one a b
theorem nodup_le : ∀ (l m : List Int), l.Nodup → (∀ x ∈ l, x ∈ m) → l.length ≤ m.length
  | [], _, _, _ => Nat.zero_le _
  | x :: l, m, n, s => by
    obtain ⟨n1, n2⟩ := List.nodup_cons.mp n
    have hx := s x List.mem_cons_self
    have h := nodup_le l (m.erase x) n2 fun y my => (List.mem_erase_of_ne (fun (e : y = x) => n1 (e ▸ my))).mpr (s y (List.mem_cons_of_mem _ my))
    rw [List.length_erase_of_mem hx] at h
    have := List.length_pos_of_mem hx
    rw [List.length_cons]
    omega
/-- who is reached from k past none of the done -/
inductive Rch (G : List Pr) (dk : Int → Bool) (k : Int) : Int → Prop
  | root : dk k = false → Rch G dk k k
  | step {i j : Int} {g : Pr} : Rch G dk k i → G[i.toNat]? = some g → j ∈ g.1 ++ g.2 → dk j = false → Rch G dk k j
def dkey (kvs : List (Key × V)) : Int → Bool := fun j => (valV kvs (Sum.inl j)).isSome
theorem Rch.bound {G : List Pr} {dk : Int → Bool} {k j : Int} (f : Forms G) (h0 : 0 ≤ k ∧ k < G.length) (r : Rch G dk k j) : 0 ≤ j ∧ j ≤ k := by
  induction r with
  | root _ => exact ⟨h0.1, Int.le_refl _⟩
  | @step i j g r hg m _ ih =>
    obtain ⟨a1, a2⟩ := f.asc _ _ hg
    have := Asc.both a1 a2 _ m
    omega
end Mine
namespace Mine
open PySem PySem.Spec PyProof.Rows L2
open PySem.AutoSeq1
set_option maxHeartbeats 1600000 in
theorem tuple_mul_one (l : Addr) (items : Array Value) (n : Nat) (dd : Option Addr) (sl : Array (Option Value)) (u : Tok) :
    Meets (Builtin.«tuple.__mul__» ⟨[.ref l, .int 1 u], []⟩) (fun _ R s => s.heap.get? l = some { cls := .type "tuple", dict := dd, data := .seq items n, slots := sl } ∧ R (.ok (.ret (.ref l))) s) :=
  .of_wp fun prog w A R s h => by
    obtain ⟨h1, h⟩ := h
    unfold Builtin.«tuple.__mul__»
    wp_walk
    exact ⟨_, rfl, h⟩
set_option maxHeartbeats 1600000 in
theorem tuple_mul_zero (l : Addr) (items : Array Value) (n : Nat) (dd : Option Addr) (sl : Array (Option Value)) (u : Tok) (he : items.isEmpty = false) :
    Meets (Builtin.«tuple.__mul__» ⟨[.ref l, .int 0 u], []⟩) (fun _ R s => s.heap.get? l = some { cls := .type "tuple", dict := dd, data := .seq items n, slots := sl } ∧ R (.ok (.ret (.ref s.heap.objs.size))) { s with heap := s.heap.push { cls := .type "tuple", data := .seq #[] } }) :=
  .of_wp fun prog w A R s h => by
    obtain ⟨h1, h⟩ := h
    unfold Builtin.«tuple.__mul__»
    wp_walk
    exact ⟨_, rfl, h⟩
end Mine
namespace Mine
open PySem PySem.Spec PyProof.Rows L2
def rRepA (K : PySem.W.Frag) : R2 := fun x y H Q => ∃ l k xs, x = .ref l ∧ y = .int k ∧ SqT K H l xs ∧ xs ≠ [] ∧ 0 ≤ k ∧ k ≤ 1000 ∧ xs.length ≤ 1000 ∧ (k = 1 → Q (.ref l) H) ∧ (k ≠ 1 → ∀ p, H p = none → Q (.ref p) (upd H p (.tup (List.replicate k.toNat xs).flatten)))
theorem op_repA {X : Cx} : OpR X (binaryOp .Mult) (rRepA X.K) := by
  rintro pins s σ H x y v u Q I rx ry ⟨l, k, xs, rfl, rfl, hq, ne, k0, k1000, l1000, q1, q2⟩
  rcases (show k = 0 ∨ k = 1 ∨ 2 ≤ k by omega) with rfl | rfl | k2
  · obtain ⟨its, rv, ⟨o, ho, hc, n, hd⟩, hz⟩ := I.tuple hq
    have q := q2 (by decide)
    cases rx
    obtain ⟨tk, rfl⟩ := ry
    obtain ⟨cls, dd, dat, sl⟩ := o
    cases hc
    cases hd
    have he : its.toArray.isEmpty = false := by
      cases its with
      | nil => cases rv; exact absurd rfl ne
      | cons z zs => rfl
    refine wpAny_binaryOp_repeat_ref (T := "tuple") (U := "int") (by decide) ⟨_, ho, rfl⟩ (fun s' => typeIs_int s' 0 tk) noFill_tuple_mul F.fills_int_mul F.slot_int_rmul repeat_tuple F.slot_int_index.lookup ?_
    refine call_meets F.slot_int_rmul (typeIs_int _ 0 tk) F.entry_int_rmul (F.args_int_rmul_2 _ _) (int_rmul_tuple 0 tk l its.toArray n dd sl) ⟨ho, rfl, ⟨_, ho, rfl⟩, ?_⟩
    refine call_meets F.slot_tuple_mul ⟨_, ho, rfl⟩ F.entry_tuple_mul (F.args_tuple_mul_2 _ _) (tuple_mul_zero l its.toArray n dd sl tk he) ⟨ho, ?_⟩
    refine ⟨.ref s.heap.objs.size, upd H s.heap.objs.size (.tup []), I.laid (fun b u h => Heap.get?_push_of_some _ h) (Nat.le_refl _) ?_, rfl, q _ (I.hok.fresh (Nat.le_refl _))⟩
    exact ⟨Nat.zero_le _, [], .nil, IsTup.new _ _⟩
  · obtain ⟨its, rv, ⟨o, ho, hc, n, hd⟩, hz⟩ := I.tuple hq
    cases rx
    obtain ⟨tk, rfl⟩ := ry
    obtain ⟨cls, dd, dat, sl⟩ := o
    cases hc
    cases hd
    refine wpAny_binaryOp_repeat_ref (T := "tuple") (U := "int") (by decide) ⟨_, ho, rfl⟩ (fun s' => typeIs_int s' 1 tk) noFill_tuple_mul F.fills_int_mul F.slot_int_rmul repeat_tuple F.slot_int_index.lookup ?_
    refine call_meets F.slot_int_rmul (typeIs_int _ 1 tk) F.entry_int_rmul (F.args_int_rmul_2 _ _) (int_rmul_tuple 1 tk l its.toArray n dd sl) ⟨ho, rfl, ⟨_, ho, rfl⟩, ?_⟩
    refine call_meets F.slot_tuple_mul ⟨_, ho, rfl⟩ F.entry_tuple_mul (F.args_tuple_mul_2 _ _) (tuple_mul_one l its.toArray n dd sl tk) ⟨ho, ?_⟩
    exact ⟨.ref l, H, I, rfl, q1 rfl⟩
  · exact op_repT pins s σ H _ _ v u Q I rx ry ⟨l, k, xs, rfl, rfl, hq, ne, k2, k1000, l1000, q2 (by omega)⟩
end Mine
namespace Mine
open PySem PySem.Spec PyProof.Rows L2
open Evl (Ex)
/-! what a cell and its digits are, as functions -/
def cellF (ns : List Int) (k : Int) : Int := if k < ns.length then ns.getD k.toNat 0 else ns.foldl (fun m c => (m * 31 + c) % 2147483647) (104729 * k + 7)
def dgA (c : Int) : Nat → List Int × Int
  | 0 => ([], c)
  | i + 1 => ((dgA c i).1 ++ [(dgA c i).2 % 60], (dgA c i).2 / 60)
def dgB (c : Int) : Nat → List Int × Int
  | 0 => ([], (c * 48271 + 11) % 2147483647)
  | i + 1 => ((dgB c i).1 ++ [((dgB c i).2 * 69621 + 7 * (i : Int) + 1) % 2147483629 / 64 % 60], ((dgB c i).2 * 69621 + 7 * (i : Int) + 1) % 2147483629)
def dgF (c : Int) (n : Nat) : List Int := if 1000000000000000000 ≤ c then (dgA c n).1 else (dgB c n).1
theorem dgA_len (c : Int) : ∀ n, (dgA c n).1.length = n
  | 0 => rfl
  | n + 1 => by show ((dgA c n).1 ++ [_]).length = _; rw [List.length_append, dgA_len c n]; rfl
theorem dgB_len (c : Int) : ∀ n, (dgB c n).1.length = n
  | 0 => rfl
  | n + 1 => by show ((dgB c n).1 ++ [_]).length = _; rw [List.length_append, dgB_len c n]; rfl
theorem dgF_len (c : Int) (n : Nat) : (dgF c n).length = n := by
  unfold dgF
  split
  · exact dgA_len c n
  · exact dgB_len c n
theorem dgA_in (c : Int) : ∀ n, ∀ d ∈ (dgA c n).1, 0 ≤ d ∧ d < 60
  | 0, d, m => by cases m
  | n + 1, d, m => by
    rcases List.mem_append.mp (show d ∈ (dgA c n).1 ++ [_] from m) with m | m
    · exact dgA_in c n d m
    · rw [List.mem_singleton.mp m]; omega
theorem dgB_in (c : Int) : ∀ n, ∀ d ∈ (dgB c n).1, 0 ≤ d ∧ d < 60
  | 0, d, m => by cases m
  | n + 1, d, m => by
    rcases List.mem_append.mp (show d ∈ (dgB c n).1 ++ [_] from m) with m | m
    · exact dgB_in c n d m
    · rw [List.mem_singleton.mp m]; omega
theorem dgF_in (c : Int) (n : Nat) : ∀ d ∈ dgF c n, 0 ≤ d ∧ d < 60 := by
  unfold dgF
  split
  · exact dgA_in c n
  · exact dgB_in c n
/-! cakes -/
structure FCakes (K : PySem.W.Frag) : Prop where
  cl : Cls K (He.ga K "Cakes")
  na : NoAttr K (He.ga K "Cakes") "_cakes"
def cfs (t : Addr) : List (Str × V) := putF "_cakes" (.ref t) []
theorem cfs_get (t : Addr) : (cfs t).lookup ("_cakes" : Str) = some (.ref t) := by
  unfold cfs
  rw [lookup_putF, if_pos rfl]
theorem cfs_no (t : Addr) {m : Str} (h : ¬ m = "_cakes") : (cfs t).lookup m = none := by
  unfold cfs
  rw [lookup_putF, if_neg h]
  rfl
abbrev Ck := Int × Int
def CkAt (H : Hp) (y : V) (c : Ck) : Prop := ∃ a, y = .ref a ∧ H a = some (.tup [.int c.1, .int c.2])
theorem CkAt.keep {H H' : Hp} {y : V} {c : Ck} (h : CkAt H y c) (k : ∀ c o, H c = some o → (∀ ys, o ≠ .lst ys) → H' c = some o) : CkAt H' y c := let ⟨a, r, z⟩ := h; ⟨a, r, k _ _ z (fun ys z => by cases z)⟩
theorem CkAt.ex {H H' : Hp} {y : V} {c : Ck} (h : CkAt H y c) (e : Ex H H') : CkAt H' y c := h.keep fun c o z _ => e c o z
/-- a list of things, each with its property -/
def AllAt {α : Type} (P : Hp → V → α → Prop) (H : Hp) (xs : List V) (cs : List α) : Prop := xs.length = cs.length ∧ ∀ (i : Nat) (c : α), cs[i]? = some c → ∃ y, xs[i]? = some y ∧ P H y c
theorem AllAt.imp {α : Type} {P : Hp → V → α → Prop} {H H' : Hp} {xs : List V} {cs : List α} (h : AllAt P H xs cs) (f : ∀ y c, P H y c → P H' y c) : AllAt P H' xs cs := ⟨h.1, fun i c q => let ⟨y, h1, h2⟩ := h.2 i c q; ⟨y, h1, f _ _ h2⟩⟩
theorem get_snoc2 {α : Type} {l : List α} {x y : α} {i : Nat} (h : (l ++ [x])[i]? = some y) : l[i]? = some y ∨ (i = l.length ∧ y = x) := by
  rcases Nat.lt_or_ge i l.length with c | c
  · rw [List.getElem?_append_left c] at h; exact Or.inl h
  · have l2 := (List.getElem?_eq_some_iff.mp h).1
    rw [List.length_append, List.length_singleton] at l2
    have e : i = l.length := by omega
    subst e
    rw [List.getElem?_append_right (Nat.le_refl _), Nat.sub_self] at h
    exact Or.inr ⟨rfl, (Option.some.inj h).symm⟩
theorem AllAt.nil {α : Type} {P : Hp → V → α → Prop} {H : Hp} : AllAt P H [] [] := ⟨rfl, fun i c h => by simp at h⟩
theorem AllAt.app {α : Type} {P : Hp → V → α → Prop} {H : Hp} {xs ys : List V} {cs ds : List α} (h : AllAt P H xs cs) (h' : AllAt P H ys ds) : AllAt P H (xs ++ ys) (cs ++ ds) := by
  refine ⟨by rw [List.length_append, List.length_append, h.1, h'.1], fun i c q => ?_⟩
  rcases Nat.lt_or_ge i cs.length with l | l
  · rw [List.getElem?_append_left l] at q
    obtain ⟨y, h1, h2⟩ := h.2 i c q
    exact ⟨y, by rw [List.getElem?_append_left (by rw [h.1]; exact l)]; exact h1, h2⟩
  · rw [List.getElem?_append_right l] at q
    obtain ⟨y, h1, h2⟩ := h'.2 _ c q
    exact ⟨y, by rw [List.getElem?_append_right (by rw [h.1]; exact l), h.1]; exact h1, h2⟩
theorem AllAt.one {α : Type} {P : Hp → V → α → Prop} {H : Hp} {y : V} {c : α} (h : P H y c) : AllAt P H [y] [c] := by
  refine ⟨rfl, fun i d q => ?_⟩
  match i with
  | 0 => cases q; exact ⟨y, rfl, h⟩
  | i + 1 => cases q
theorem AllAt.take {α : Type} {P : Hp → V → α → Prop} {H : Hp} {xs : List V} {cs : List α} (h : AllAt P H xs cs) (n : Nat) : AllAt P H (xs.take n) (cs.take n) := by
  refine ⟨by rw [List.length_take, List.length_take, h.1], fun i c q => ?_⟩
  have l := (List.getElem?_eq_some_iff.mp q).1
  rw [List.length_take] at l
  rw [List.getElem?_take_of_lt (by omega)] at q
  obtain ⟨y, h1, h2⟩ := h.2 i c q
  exact ⟨y, by rw [List.getElem?_take_of_lt (by omega)]; exact h1, h2⟩
theorem AllAt.drop {α : Type} {P : Hp → V → α → Prop} {H : Hp} {xs : List V} {cs : List α} (h : AllAt P H xs cs) (n : Nat) : AllAt P H (xs.drop n) (cs.drop n) := by
  refine ⟨by rw [List.length_drop, List.length_drop, h.1], fun i c q => ?_⟩
  rw [List.getElem?_drop] at q
  obtain ⟨y, h1, h2⟩ := h.2 _ c q
  exact ⟨y, by rw [List.getElem?_drop]; exact h1, h2⟩
theorem AllAt.rep {α : Type} {P : Hp → V → α → Prop} {H : Hp} {y : V} {c : α} (h : P H y c) : ∀ n : Nat, AllAt P H (List.replicate n [y]).flatten (List.replicate n c)
  | 0 => .nil
  | n + 1 => by
    rw [List.replicate_succ, List.replicate_succ, List.flatten_cons]
    exact AllAt.app (cs := [c]) (.one h) (AllAt.rep h n)
abbrev CsAt := AllAt CkAt
theorem CsAt.keep {H H' : Hp} {xs : List V} {cs : List Ck} (h : CsAt H xs cs) (k : ∀ c o, H c = some o → (∀ ys, o ≠ .lst ys) → H' c = some o) : CsAt H' xs cs := h.imp fun y c q => q.keep k
theorem CsAt.ex {H H' : Hp} {xs : List V} {cs : List Ck} (h : CsAt H xs cs) (e : Ex H H') : CsAt H' xs cs := h.imp fun y c q => q.ex e
/-- a board of cakes -/
def CbAt (K : PySem.W.Frag) (H : Hp) (b : Addr) (cs : List Ck) : Prop := ∃ dx t xs, H b = some (.ins (He.ga K "Cakes") dx (cfs t)) ∧ H t = some (.tup xs) ∧ CsAt H xs cs
theorem CbAt.keep {K : PySem.W.Frag} {H H' : Hp} {b : Addr} {cs : List Ck} (h : CbAt K H b cs) (k : ∀ c o, H c = some o → (∀ ys, o ≠ .lst ys) → H' c = some o) : CbAt K H' b cs :=
  let ⟨dx, t, xs, h1, h2, h3⟩ := h; ⟨dx, t, xs, k _ _ h1 (fun ys z => by cases z), k _ _ h2 (fun ys z => by cases z), h3.keep k⟩
theorem CbAt.ex {K : PySem.W.Frag} {H H' : Hp} {b : Addr} {cs : List Ck} (h : CbAt K H b cs) (e : Ex H H') : CbAt K H' b cs := h.keep fun c o z _ => e c o z
theorem CbAt.set {K : PySem.W.Frag} {H : Hp} {b p : Addr} {cs : List Ck} {ys : List V} {o : HO} (h : CbAt K H b cs) (hp : H p = some (.lst ys)) : CbAt K (upd H p o) b cs :=
  h.keep fun c q z n => (upd_ne fun e => n ys (by rw [e, hp] at z; exact (Option.some.inj z).symm)).trans z
def CbV (K : PySem.W.Frag) (H : Hp) (y : V) (cs : List Ck) : Prop := ∃ b, y = .ref b ∧ CbAt K H b cs
/-- a value that is due -/
def DuC (H : Hp) (y : V) (cs : List Ck) : Prop := ∃ d u xs, y = .ref d ∧ H d = some (.tup [.str "cakes", .ref u]) ∧ H u = some (.tup xs) ∧ CsAt H xs cs
theorem DuC.keep {H H' : Hp} {y : V} {cs : List Ck} (h : DuC H y cs) (k : ∀ c o, H c = some o → (∀ ys, o ≠ .lst ys) → H' c = some o) : DuC H' y cs :=
  let ⟨d, u, xs, e, h1, h2, h3⟩ := h; ⟨d, u, xs, e, k _ _ h1 (fun ys z => by cases z), k _ _ h2 (fun ys z => by cases z), h3.keep k⟩
theorem DuC.ex {H H' : Hp} {y : V} {cs : List Ck} (h : DuC H y cs) (e : Ex H H') : DuC H' y cs := h.keep fun c o z _ => e c o z
/-- the squares of some cakes -/
def sqs (cs : List Ck) : Int := (cs.map fun c => c.1 * c.2).sum
def OkK (c : Ck) : Prop := 1 ≤ c.1 ∧ c.1 ≤ 12 ∧ 1 ≤ c.2 ∧ c.2 ≤ 12
def OkC (cs : List Ck) : Prop := (∀ c ∈ cs, OkK c) ∧ sqs cs ≤ 144
theorem sqs_app (a b : List Ck) : sqs (a ++ b) = sqs a + sqs b := by
  unfold sqs
  rw [List.map_append, List.sum_append]
theorem sqs_cons (c : Ck) (b : List Ck) : sqs (c :: b) = c.1 * c.2 + sqs b := by
  unfold sqs
  rw [List.map_cons, List.sum_cons]
theorem okK_sq {c : Ck} (h : OkK c) : 1 ≤ c.1 * c.2 ∧ c.1 * c.2 ≤ 144 := by
  obtain ⟨a, b, d, e⟩ := h
  refine ⟨?_, ?_⟩
  · have := Int.mul_le_mul a d (by decide) (by omega)
    omega
  · have := Int.mul_le_mul b e (by omega) (by omega)
    omega
theorem len_sqs : ∀ {cs : List Ck}, (∀ c ∈ cs, OkK c) → (cs.length : Int) ≤ sqs cs
  | [], _ => by decide
  | c :: cs, h => by
    have h1 := okK_sq (h c (List.mem_cons_self ..))
    have h2 := len_sqs fun c m => h c (List.mem_cons_of_mem _ m)
    rw [sqs_cons, List.length_cons]
    omega
theorem OkC.len {cs : List Ck} (h : OkC cs) : cs.length ≤ 144 := by
  have := len_sqs h.1
  have := h.2
  omega
/-- the pairs of pieces of a cake -/
def cutsC (s : Str) (c : Ck) : List (Ck × Ck) := if s = "left" then (List.range (c.2 - 1).toNat).map fun (j : Nat) => ((c.1, 1 + (j : Int)), (c.1, c.2 - (1 + (j : Int)))) else (List.range (c.1 - 1).toNat).map fun (j : Nat) => ((1 + (j : Int), c.2), (c.1 - (1 + (j : Int)), c.2))
def mvAtC (s : Str) (cs : List Ck) (i : Nat) : List (List Ck) := (cutsC s (cs.getD i (1, 1))).map fun two => cs.take i ++ [two.1, two.2] ++ cs.drop (i + 1)
def mvsC (s : Str) (cs : List Ck) : List (List Ck) := (List.range cs.length).flatMap (mvAtC s cs)
theorem cuts_ok {s : Str} {c : Ck} (h : OkK c) {two : Ck × Ck} (m : two ∈ cutsC s c) : OkK two.1 ∧ OkK two.2 ∧ two.1.1 * two.1.2 + two.2.1 * two.2.2 = c.1 * c.2 := by
  obtain ⟨a, b, d, e⟩ := h
  unfold cutsC at m
  split at m
  · obtain ⟨j, hj, rfl⟩ := List.mem_map.mp m
    have hj := List.mem_range.mp hj
    refine ⟨⟨a, b, by show 1 ≤ 1 + (j : Int); omega, by show 1 + (j : Int) ≤ 12; omega⟩, ⟨a, b, by show 1 ≤ c.2 - (1 + (j : Int)); omega, by show c.2 - (1 + (j : Int)) ≤ 12; omega⟩, ?_⟩
    show c.1 * (1 + (j : Int)) + c.1 * (c.2 - (1 + (j : Int))) = c.1 * c.2
    rw [← Int.mul_add]
    congr 1
    omega
  · obtain ⟨j, hj, rfl⟩ := List.mem_map.mp m
    have hj := List.mem_range.mp hj
    refine ⟨⟨by show 1 ≤ 1 + (j : Int); omega, by show 1 + (j : Int) ≤ 12; omega, d, e⟩, ⟨by show 1 ≤ c.1 - (1 + (j : Int)); omega, by show c.1 - (1 + (j : Int)) ≤ 12; omega, d, e⟩, ?_⟩
    show (1 + (j : Int)) * c.2 + (c.1 - (1 + (j : Int))) * c.2 = c.1 * c.2
    rw [← Int.add_mul]
    congr 1
    omega
theorem cuts_len {s : Str} {c : Ck} (h : OkK c) : (cutsC s c).length ≤ 11 := by
  obtain ⟨a, b, d, e⟩ := h
  unfold cutsC
  split
  · rw [List.length_map, List.length_range]; omega
  · rw [List.length_map, List.length_range]; omega
theorem get_mem {α : Type} {cs : List α} {i : Nat} (h : i < cs.length) (d : α) : cs.getD i d ∈ cs ∧ cs = cs.take i ++ [cs.getD i d] ++ cs.drop (i + 1) := by
  have e : cs.getD i d = cs[i] := by rw [List.getD_eq_getElem?_getD, List.getElem?_eq_getElem h]; rfl
  refine ⟨by rw [e]; exact List.getElem_mem h, ?_⟩
  rw [e, List.append_assoc]
  show cs = cs.take i ++ (cs[i] :: cs.drop (i + 1))
  rw [← List.drop_eq_getElem_cons h, List.take_append_drop]
theorem ok_mv {s : Str} {cs : List Ck} (ok : OkC cs) {i : Nat} (hi : i < cs.length) {two : Ck × Ck} (m : two ∈ cutsC s (cs.getD i (1, 1))) : OkC (cs.take i ++ [two.1, two.2] ++ cs.drop (i + 1)) := by
  obtain ⟨gm, ge⟩ := get_mem hi (1, 1)
  obtain ⟨o1, o2, o3⟩ := cuts_ok (ok.1 _ gm) m
  refine ⟨fun c m => ?_, ?_⟩
  · rcases List.mem_append.mp m with m | m
    · rcases List.mem_append.mp m with m | m
      · exact ok.1 c (List.mem_of_mem_take m)
      · rcases List.mem_cons.mp m with rfl | m
        · exact o1
        · rw [List.mem_singleton.mp m]; exact o2
    · exact ok.1 c (List.mem_of_mem_drop m)
  · have h := ok.2
    rw [ge, sqs_app, sqs_app, sqs_cons] at h
    rw [sqs_app, sqs_app, sqs_cons, sqs_cons]
    have z : sqs [] = 0 := rfl
    omega
theorem mvs_ok {s : Str} {cs : List Ck} (ok : OkC cs) : ∀ m ∈ mvsC s cs, OkC m := by
  intro m h
  obtain ⟨i, hi, h⟩ := List.mem_flatMap.mp h
  obtain ⟨two, ht, rfl⟩ := List.mem_map.mp h
  exact ok_mv ok (List.mem_range.mp hi) ht
theorem mvs_len {s : Str} {cs : List Ck} (ok : OkC cs) (n : Nat) (h : n ≤ cs.length) : ((List.range n).flatMap (mvAtC s cs)).length ≤ 11 * n := by
  induction n with
  | zero => exact Nat.le_refl _
  | succ n ih =>
    have h1 := ih (by omega)
    rw [List.range_succ, List.flatMap_append, List.length_append]
    have h2 : ([n].flatMap (mvAtC s cs)).length ≤ 11 := by
      rw [List.flatMap_cons, List.flatMap_nil, List.append_nil]
      unfold mvAtC
      rw [List.length_map]
      exact cuts_len (ok.1 _ (get_mem (show n < cs.length by omega) (1, 1)).1)
    omega
end Mine
namespace Mine
open PySem PySem.Spec PyProof.Rows L2
open Evl (Ex)
/-- two pieces -/
def TwAt (H : Hp) (y : V) (two : Ck × Ck) : Prop := ∃ a y1 y2, y = .ref a ∧ H a = some (.tup [y1, y2]) ∧ CkAt H y1 two.1 ∧ CkAt H y2 two.2
theorem TwAt.keep {H H' : Hp} {y : V} {c : Ck × Ck} (h : TwAt H y c) (k : ∀ c o, H c = some o → (∀ ys, o ≠ .lst ys) → H' c = some o) : TwAt H' y c := let ⟨a, y1, y2, r, z, h1, h2⟩ := h; ⟨a, y1, y2, r, k _ _ z (fun ys z => by cases z), h1.keep k, h2.keep k⟩
theorem TwAt.ex {H H' : Hp} {y : V} {c : Ck × Ck} (h : TwAt H y c) (e : Ex H H') : TwAt H' y c := h.keep fun c o z _ => e c o z
theorem CsAt.mv {H : Hp} {xs : List V} {cs : List Ck} {y1 y2 : V} {two : Ck × Ck} (R : CsAt H xs cs) (i : Nat) (h1 : CkAt H y1 two.1) (h2 : CkAt H y2 two.2) : CsAt H (xs.take i ++ [y1, y2] ++ xs.drop (i + 1)) (cs.take i ++ [two.1, two.2] ++ cs.drop (i + 1)) :=
  ((R.take i).app (AllAt.app (xs := [y1]) (ys := [y2]) (cs := [two.1]) (ds := [two.2]) (.one h1) (.one h2))).app (R.drop (i + 1))
theorem CbV.keep {K : PySem.W.Frag} {H H' : Hp} {y : V} {cs : List Ck} (h : CbV K H y cs) (k : ∀ c o, H c = some o → (∀ ys, o ≠ .lst ys) → H' c = some o) : CbV K H' y cs := let ⟨b, r, z⟩ := h; ⟨b, r, z.keep k⟩
theorem CbV.ex {K : PySem.W.Frag} {H H' : Hp} {y : V} {cs : List Ck} (h : CbV K H y cs) (e : Ex H H') : CbV K H' y cs := h.keep fun c o z _ => e c o z
abbrev BsC (K : PySem.W.Frag) (H : Hp) (ys : List V) (css : List (List Ck)) : Prop := AllAt (CbV K) H ys css
abbrev DsC (H : Hp) (ys : List V) (css : List (List Ck)) : Prop := AllAt DuC H ys css
end Mine
namespace Mine
open PySem PySem.Spec PyProof.Rows L2
open Evl (Ex)
/-- the data of a cake -/
def ckD (c : Ck) : PyData := .tuple ([c.1, c.2].map .int)
theorem CkAt.dp {K : PySem.W.Frag} {H : Hp} {y : V} {c : Ck} (h : CkAt H y c) : Dp K H y (ckD c) := by
  obtain ⟨a, rfl, ha⟩ := h
  exact .tup (k_st ha) (dp_ints [c.1, c.2])
theorem eqv_ck (c d : Ck) : (ckD c).eqv (ckD d) = decide (c = d) := by
  unfold ckD
  simp only [PyData.eqv, PySem.W.ked_eqvAll]
  obtain ⟨a, b⟩ := c
  obtain ⟨e, f⟩ := d
  by_cases h1 : a = e <;> by_cases h2 : b = f <;> simp [h1, h2]
theorem deep_ck (c : Ck) : (ckD c).depth = 1 := by
  unfold ckD
  simp only [PyData.depth, deep_ints]
theorem lay_ck (c : Ck) : (ckD c).canLay0 = true := by
  unfold ckD
  simp only [PyData.canLay0, lay_ints]
theorem shaped_ck (c : Ck) : SeqAt.shaped (ckD c) = true := by
  unfold SeqAt.shaped
  rw [lay_ck, decide_eq_true (by rw [deep_ck]; decide)]
  rfl
theorem k_neCk {K : PySem.W.Frag} {H : Hp} {Q : VK} {x y : V} {c d : Ck} (f1 : CkAt H x c) (f2 : CkAt H y d) (q : Q (.bl (!decide (c = d))) H) : rNeD K x y H Q :=
  ⟨ckD c, ckD d, f1.dp, f2.dp, shaped_ck c, shaped_ck d, by rw [eqv_ck]; exact q⟩
theorem AllAt.tail {α : Type} {P : Hp → V → α → Prop} {H : Hp} {y : V} {ys : List V} {c : α} {cs : List α} (h : AllAt P H (y :: ys) (c :: cs)) : P H y c ∧ AllAt P H ys cs := by
  refine ⟨?_, by have := h.1; rw [List.length_cons, List.length_cons] at this; omega, fun i r' q => ?_⟩
  · obtain ⟨y', h1, h2⟩ := h.2 0 c rfl
    cases h1; exact h2
  · obtain ⟨y', h1, h2⟩ := h.2 (i + 1) r' q
    exact ⟨y', h1, h2⟩
theorem CsAt.dp {K : PySem.W.Frag} {H : Hp} : ∀ {xs : List V} {cs : List Ck}, CsAt H xs cs → DpAll K H xs (cs.map ckD)
  | [], [], _ => .nil
  | y :: ys, r :: rs, h => .cons h.tail.1.dp (CsAt.dp h.tail.2)
  | [], _ :: _, h => absurd h.1 (by simp)
  | _ :: _, [], h => absurd h.1 (by simp)
theorem deep_cks : ∀ rs : List Ck, PyData.depthAll (rs.map ckD) ≤ 1
  | [] => by simp only [List.map_nil, PyData.depthAll]; decide
  | g :: rs => by
    have h := deep_cks rs
    simp only [List.map_cons, PyData.depthAll, deep_ck]
    omega
theorem lay_cks : ∀ rs : List Ck, PyData.canLayAll0 (rs.map ckD) = true
  | [] => rfl
  | g :: rs => by
    simp only [List.map_cons, PyData.canLayAll0, lay_ck, lay_cks rs]
    rfl
theorem shaped_cks (rs : List Ck) : SeqAt.shaped (.list (rs.map ckD)) = true := by
  have h := deep_cks rs
  have hd : (PyData.list (rs.map ckD)).depth ≤ 64 := by simp only [PyData.depth]; omega
  have hl : (PyData.list (rs.map ckD)).canLay0 = true := by simp only [PyData.canLay0]; exact lay_cks rs
  unfold SeqAt.shaped
  rw [hl, decide_eq_true hd]
  rfl
theorem eqvAll_cks : ∀ rs : List Ck, PyData.eqvAll (rs.map ckD) (rs.map ckD) = true
  | [] => by simp only [List.map_nil, PyData.eqvAll]
  | g :: rs => by
    simp only [List.map_cons, PyData.eqvAll, eqvAll_cks rs, eqv_ck]
    simp
theorem k_neCks {K : PySem.W.Frag} {H : Hp} {Q : VK} {a b : Addr} {xs : List V} {cs : List Ck} (h1 : SqL K H a xs) (h2 : SqL K H b xs) (R : CsAt H xs cs) (q : Q (.bl false) H) : rNeD K (.ref a) (.ref b) H Q :=
  ⟨_, _, .lst h1 R.dp, .lst h2 R.dp, shaped_cks cs, shaped_cks cs, by rw [PyData.eqv, eqvAll_cks]; exact q⟩
/-- the parts -/
def partsC (cs : List Ck) : List (List Ck) := (cs.filter fun c => !decide (c = (1, 1))).map fun c => [c]
theorem parts_len (cs : List Ck) : (partsC cs).length ≤ cs.length := by
  unfold partsC
  rw [List.length_map]
  exact List.length_filter_le _ _
theorem parts_take {cs : List Ck} {i : Nat} {c : Ck} (h : cs[i]? = some c) : partsC (cs.take (i + 1)) = partsC (cs.take i) ++ (if c = (1, 1) then [] else [[c]]) := by
  unfold partsC
  rw [List.take_add_one, h, List.filter_append, List.map_append]
  congr 1
  show ([c].filter fun c => !decide (c = (1, 1))).map _ = _
  by_cases z : c = (1, 1)
  · rw [if_pos z, List.filter_cons, decide_eq_true z]; rfl
  · rw [if_neg z, List.filter_cons, decide_eq_false z]; rfl
theorem okC_one {c : Ck} (h : OkK c) : OkC [c] := by
  refine ⟨fun d m => by rw [List.mem_singleton.mp m]; exact h, ?_⟩
  have := (okK_sq h).2
  rw [sqs_cons]
  have z : sqs [] = 0 := rfl
  omega
end Mine
namespace Mine
open PySem PySem.Spec PyProof.Rows L2
open Evl (Ex)
def cakeF (ds : List Int) (most : Int) (i : Nat) : Ck := (1 + ds.getD (1 + 2 * (i : Int)).toNat 0 % most, 1 + ds.getD (2 + 2 * (i : Int)).toNat 0 % most)
def ckF (ds : List Int) (most : Int) : Nat → List Ck × Int
  | 0 => ([], 0)
  | i + 1 => if (ckF ds most i).2 + (cakeF ds most i).1 * (cakeF ds most i).2 ≤ 144 then ((ckF ds most i).1 ++ [cakeF ds most i], (ckF ds most i).2 + (cakeF ds most i).1 * (cakeF ds most i).2) else ckF ds most i
theorem cakeF_ok {ds : List Int} {most : Int} (hm : most = 12 ∨ most = 4) (i : Nat) : OkK (cakeF ds most i) := by
  unfold OkK cakeF
  rcases hm with rfl | rfl <;> refine ⟨?_, ?_, ?_, ?_⟩ <;> (show _ ≤ _; omega)
theorem ckF_ok {ds : List Int} {most : Int} (hm : most = 12 ∨ most = 4) : ∀ i, (∀ c ∈ (ckF ds most i).1, OkK c) ∧ sqs (ckF ds most i).1 = (ckF ds most i).2 ∧ (ckF ds most i).2 ≤ 144 ∧ (ckF ds most i).1.length ≤ i
  | 0 => ⟨fun c m => absurd (show c ∈ ([] : List Ck) from m) (by simp), rfl, (show (0 : Int) ≤ 144 by decide), Nat.le_refl _⟩
  | i + 1 => by
    obtain ⟨h1, h2, h3, h4⟩ := ckF_ok hm i
    unfold ckF
    split
    · rename_i h
      refine ⟨fun c m => ?_, ?_, h, ?_⟩
      · rcases List.mem_append.mp m with m | m
        · exact h1 c m
        · rw [List.mem_singleton.mp m]; exact cakeF_ok hm i
      · show sqs ((ckF ds most i).1 ++ [cakeF ds most i]) = _
        rw [sqs_app, sqs_cons, h2]
        have z : sqs [] = 0 := rfl
        omega
      · show ((ckF ds most i).1 ++ [_]).length ≤ _
        rw [List.length_append, List.length_singleton]; omega
    · exact ⟨h1, h2, h3, by omega⟩
def mostF (ds : List Int) : Int := if ds.getD (29 : Int).toNat 0 % 3 = 0 then 12 else 4
def cakesF (c : Int) : List Ck := (ckF (dgF c 30) (mostF (dgF c 30)) ((dgF c 30).getD (0 : Int).toNat 0 % 15).toNat).1
theorem mostF_or (ds : List Int) : mostF ds = 12 ∨ mostF ds = 4 := by
  unfold mostF
  split
  · exact Or.inl rfl
  · exact Or.inr rfl
theorem cakesF_ok (c : Int) : OkC (cakesF c) := by
  obtain ⟨h1, h2, h3, h4⟩ := ckF_ok (ds := dgF c 30) (mostF_or (dgF c 30)) ((dgF c 30).getD (0 : Int).toNat 0 % 15).toNat
  exact ⟨h1, by unfold cakesF; rw [h2]; exact h3⟩
theorem cakesF_len (c : Int) : (cakesF c).length ≤ 14 := by
  obtain ⟨h1, h2, h3, h4⟩ := ckF_ok (ds := dgF c 30) (mostF_or (dgF c 30)) ((dgF c 30).getD (0 : Int).toNat 0 % 15).toNat
  unfold cakesF
  omega
theorem k_ifv {p : Prop} [Decidable p] {a b : Int} {σ : L2.St} {H : Hp} {Q : VK} (q : Q (.int (if p then a else b)) H) : if decide p = true then tC (.int a) σ H Q else tC (.int b) σ H Q := by
  by_cases h : p
  · rw [if_pos h] at q; rw [if_pos (decide_eq_true h)]; exact q
  · rw [if_neg h] at q; rw [if_neg (by simpa using h)]; exact q
end Mine
namespace Mine
open PySem PySem.Spec PyProof.Rows L2
open Evl (Ex)
def cutAt (s : Str) (c : Ck) (j : Nat) : Ck × Ck := if s = "left" then ((c.1, 1 + (j : Int)), (c.1, c.2 - (1 + (j : Int)))) else ((1 + (j : Int), c.2), (c.1 - (1 + (j : Int)), c.2))
theorem cutsC_at (s : Str) (c : Ck) : cutsC s c = (List.range ((if s = "left" then c.2 else c.1) - 1).toNat).map (cutAt s c) := by
  unfold cutsC
  by_cases z : s = "left"
  · rw [if_pos z, if_pos z]
    congr 1
    funext j
    unfold cutAt
    rw [if_pos z]
  · rw [if_neg z, if_neg z]
    congr 1
    funext j
    unfold cutAt
    rw [if_neg z]
theorem k_ifvar {p : Prop} [Decidable p] {i j : Nat} {a b : Int} {σ : L2.St} {H : Hp} {Q : VK} (hi : σ[i]? = some (some (.int a))) (hj : σ[j]? = some (some (.int b))) (q : Q (.int (if p then a else b)) H) : if decide p = true then tVar i σ H Q else tVar j σ H Q := by
  by_cases h : p
  · rw [if_pos h] at q; rw [if_pos (decide_eq_true h)]; exact k_var hi q
  · rw [if_neg h] at q; rw [if_neg (by simpa using h)]; exact k_var hj q
end Mine
namespace Mine
open PySem PySem.Spec PyProof.Rows L2
open Evl (Ex)
theorem sqs_rep : ∀ n : Nat, sqs (List.replicate n ((1, 1) : Ck)) = (n : Int)
  | 0 => rfl
  | n + 1 => by
    rw [List.replicate_succ, sqs_cons, sqs_rep n]
    show (1 : Int) * 1 + (n : Int) = _
    omega
theorem ok_rep {n : Nat} {c : Ck} (m : c ∈ List.replicate n ((1, 1) : Ck)) : OkK c := by
  rw [(List.mem_replicate.mp m).2]
  exact ⟨by decide, by decide, by decide, by decide⟩
theorem idx_mod {n : Nat} (h : 1 ≤ n) (c : Int) : ∃ k : Nat, c % (n : Int) = (k : Int) ∧ k < n := by
  have h1 := Int.emod_nonneg c (b := (n : Int)) (by omega)
  have h2 := Int.emod_lt_of_pos c (b := (n : Int)) (by omega)
  exact ⟨(c % (n : Int)).toNat, by omega, by omega⟩
end Mine
namespace Mine
open PySem PySem.Spec PyProof.Rows L2
open Evl (Ex)
theorem n_repA {K : PySem.W.Frag} {H : Hp} {Q : VK} {l : Addr} {k : Int} {xs : List V} (h : H l = some (.tup xs)) (ne : xs ≠ []) (k0 : 0 ≤ k) (k1 : k ≤ 1000) (x1 : xs.length ≤ 1000) (q : ∀ p H', Ex H H' → H' p = some (.tup (List.replicate k.toNat xs).flatten) → Q (.ref p) H') : rRepA K (.ref l) (.int k) H Q := by
  refine ⟨l, k, xs, rfl, rfl, k_st h, ne, k0, k1, x1, fun e => q l H (Evl.Ex.refl _) ?_, fun _ p np => q p _ (Evl.Ex.new np) upd_same⟩
  subst e
  rw [h]
  show some (HO.tup xs) = some (HO.tup (xs ++ []))
  rw [List.append_nil]
/-- the part of the dues that are parts -/
theorem due_parts {K : PySem.W.Frag} {σ : L2.St} {Q : VK} {H : Hp} {u : Addr} {xs : List V} {cs : List Ck} {i : Nat} (ht : H u = some (.tup xs)) (R : CsAt H xs cs) (l144 : cs.length ≤ 144)
    (w : ∀ x, wipe ((wipe σ [i]).set i (some x)) [i] = wipe σ [i]) (v : ∀ x, ((wipe σ [i]).set i (some x))[i]? = some (some x))
    (q : ∀ D ys H', H D = none → Ex H H' → H' D = some (.lst ys) → DsC H' ys (partsC cs) → Q (.ref D) H') :
    lcR (gName i) (tTest (tOp (rNeD K) (tVar i) (tTup (tCons (tC (.int 1)) (tCons (tC (.int 1)) tNil))))) (tTup (tCons (tC (.str "cakes")) (tCons (tTup (tCons (tVar i) tNil)) tNil))) [i] σ Q (Itt K u) H := by
  have xl := R.1
  intro D hD
  refine lc_tup (K := K) (a := u) (xs := xs) (fun j H' => ∃ ys, Ex H H' ∧ H' D = some (.lst ys) ∧ DsC H' ys (partsC (cs.take j))) ⟨[], Evl.Ex.new hD, upd_same, .nil⟩ (fun i H' _ ⟨_, e, _⟩ => k_st (e _ _ ht)) (fun j x H' hx p => ?_) (fun H' p => ?_)
  · obtain ⟨ys, e, hd, bs⟩ := p
    have hi := (List.getElem?_eq_some_iff.mp hx).1
    have gc := List.getElem?_eq_getElem (l := cs) (i := j) (by omega)
    obtain ⟨x', hx', ck⟩ := R.2 j _ gc
    rw [hx] at hx'
    injection hx' with hx'
    subst hx'
    have pt := parts_take gc
    generalize cs[j] = c at *
    have yl : ys.length ≤ j := by
      rw [bs.1]
      refine Nat.le_trans (parts_len _) ?_
      rw [List.length_take]; omega
    refine ⟨w _, ?_⟩
    rw [pt]
    refine k_test (k_op (k_var (v _) (k_tup (k_cons (k_c (k_cons (k_c (k_nil ?_))))))))
    refine ⟨fits (Nat.le_of_ble_eq_true rfl), fun p1 np1 => ?_⟩
    have e1 := Evl.Ex.new (o := HO.tup [V.int 1, V.int 1]) np1
    have s1 : upd H' p1 (HO.tup [V.int 1, V.int 1]) p1 = some (HO.tup [V.int 1, V.int 1]) := upd_same
    generalize upd H' p1 (HO.tup [V.int 1, V.int 1]) = H1 at *
    have hd1 := e1 _ _ hd
    have bs1 := bs.imp fun y c q => q.ex e1
    have ck1 := (ck.ex e).ex e1
    refine k_neCk (d := (1, 1)) ck1 ⟨p1, rfl, s1⟩ ⟨_, rfl, ?_⟩
    by_cases z : c = (1, 1)
    · rw [decide_eq_true z, if_pos z, List.append_nil, if_neg (show ¬ (!true) = true by decide)]
      exact ⟨ys, e.trans e1, hd1, bs1⟩
    · rw [decide_eq_false z, if_neg z]
      rw [if_pos (show (!false) = true from rfl)]
      refine k_tup (k_cons (k_c (k_cons (k_tup (k_cons (k_var (v _) (k_nil ?_)))))))
      refine ⟨fits (Nat.le_of_ble_eq_true rfl), fun p2 np2 => ?_⟩
      have e2 := Evl.Ex.new (o := HO.tup [x]) np2
      have s2 : upd H1 p2 (HO.tup [x]) p2 = some (HO.tup [x]) := upd_same
      generalize upd H1 p2 (HO.tup [x]) = H2 at *
      refine k_nil ?_
      refine ⟨fits (Nat.le_of_ble_eq_true rfl), fun p3 np3 => ?_⟩
      have e3 := Evl.Ex.new (o := HO.tup [V.str "cakes", V.ref p2]) np3
      have s3 : upd H2 p3 (HO.tup [V.str "cakes", V.ref p2]) p3 = some (HO.tup [V.str "cakes", V.ref p2]) := upd_same
      generalize upd H2 p3 (HO.tup [V.str "cakes", V.ref p2]) = H3 at *
      have e23 := e2.trans e3
      have hd3 := e23 _ _ hd1
      have bs3 := (bs1.imp fun y c q => q.ex e23).app (.one (P := DuC) (c := [c]) ⟨p3, p2, _, rfl, s3, e3 _ _ s2, .one (ck1.ex e23)⟩)
      refine ⟨ys, hd3, fits' (by omega), ys ++ [V.ref p3], Evl.Ex.mut ((e.trans e1).trans e23) hD, upd_same, ?_⟩
      exact bs3.imp fun y c q => q.keep (H' := upd H3 D (HO.lst (ys ++ [V.ref p3]))) fun c o q n => (upd_ne (fun e => n _ (by rw [e, hd3] at q; exact (Option.some.inj q).symm))).trans q
  · obtain ⟨ys, e, hd, bs⟩ := p
    rw [xl, List.take_of_length_le (Nat.le_refl _)] at bs
    exact q D ys H' hD e hd bs
end Mine
namespace Mine
open PySem PySem.Spec PyProof.Rows L2
open PySem.AutoSeq1
/-! enumerate(a text of signs below 128) -/
/-- a text of signs below 128 -/
def Asc7 (x : Str) : Prop := strIterType x = "str_ascii_iterator"
def IteS (x : Str) : It :=
  ⟨fun i H => i < x.cps.size, fun i H v H' => ∃ T c, v = .ref T ∧ H T = none ∧ H' = upd H T (.tup [.int (i : Nat), .str ⟨#[c]⟩]) ∧ x.cps[i]? = some c, fun i H => x.cps.size ≤ i⟩
theorem turn_enumS {P : Program} {w : World} {K : PySem.W.Frag} {elts : List Expr} {kk : Nat} {tpos : Pos} (x : Str) (t : Tok) (e it : Addr) :
    Turn P w K (.Tuple elts kk tpos) (IteS x) [e, it] e (fun i h => (∃ old, IsEnum h e it ((i : Nat) : Int) old) ∧ h.IsStrIter it "str_ascii_iterator" x t i ∧ e ≠ it ∧ i ≤ x.cps.size) where
  mem := by simp
  obj := fun i h st b hb => by
    obtain ⟨⟨old, he⟩, ⟨o, ho, hc, hd⟩, _⟩ := st
    rcases (show b = e ∨ b = it by simpa using hb) with z | z
    · rw [z]; exact ⟨_, he, fun v q => nomatch q⟩
    · rw [z]; exact ⟨o, ho, fun v q => by rw [hd] at q; cases q⟩
  keep := fun i h h' st k => let ⟨⟨old, he⟩, ⟨o, ho, hc, hd⟩, hne⟩ := st; ⟨⟨old, k e (by simp) _ he⟩, ⟨o, k it (by simp) o ho, hc, hd⟩, hne⟩
  item := by
    intro X hP hw hK hc i pins s σ H E I hf st hg
    subst hP hw hK
    obtain ⟨⟨old, he⟩, hit, hne, hle⟩ := st
    have hi : i < x.cps.size := hg
    have hel : e < s.heap.objs.size := Heap.lt_size he
    have hil : it < s.heap.objs.size := by obtain ⟨_, q, _⟩ := hit; exact Heap.lt_size q
    have D := Draws.strAscii (prog := X.prog) (w := X.w) (A := X.A.in1) (I.ok.hd hc) it x t
    refine wpAny_pyNext_enum_itemC D he hit hi hne (by simp [hne]) fun y h' tk hy ho st' hT hsz hk => ?_
    refine ⟨_, rfl, wpAny_letOwnedTupleGo_enum (s := { s with heap := h', toks := tk + 1 }) ho fun h'' he' sb => ?_⟩
    have hT2 : h''.get? s.heap.objs.size = some { cls := .type "tuple", data := .seq #[.int i tk, y] } := (sb.2 _ (Nat.ne_of_gt hel)).trans hT
    obtain ⟨c, u, hcx, ey⟩ := hy
    subst ey
    have new : ObjOk X.prog X.w (upd H s.heap.objs.size (.tup [.int (i : Nat), .str ⟨#[c]⟩])) h'' s.heap.objs.size (.tup [.int (i : Nat), .str ⟨#[c]⟩]) :=
      ⟨by show 2 ≤ sizeLine; decide, [.int i tk, .str ⟨#[c]⟩ u], .cons ⟨_, rfl⟩ (.cons ⟨_, rfl⟩ .nil), ⟨_, hT2, rfl, _, rfl⟩⟩
    have I1 : Inv X pins σ (upd H s.heap.objs.size (.tup [.int (i : Nat), .str ⟨#[c]⟩])) { s with heap := h'', toks := tk + 1 } :=
      I.turnedNew (ch := [e, it]) (fun b ob hb q => (sb.2 b (fun z => hb (by simp [z]))).trans (hk b ob (fun z => hb (by simp [z])) (fun z => hb (by simp [z])) q)) hf (Nat.le_refl _) new
    refine ⟨.ref s.heap.objs.size, _, I1, rfl, ⟨_, c, rfl, I.hok.fresh (Nat.le_refl _), rfl, hcx⟩, ⟨⟨.str ⟨#[c]⟩ u, ?_⟩, ?_, hne, hi⟩, fun b hb => ?_⟩
    · have e1 : ((i + 1 : Nat) : Int) = (i : Int) + 1 := by omega
      rw [e1]; exact he'
    · obtain ⟨o, ho2, hc2, hd2⟩ := st'
      exact ⟨o, (sb.2 it (Ne.symm hne)).trans ho2, hc2, hd2⟩
    · have hb' : b < s.heap.objs.size := by
        rcases (show b = e ∨ b = it by simpa using hb) with z | z
        · rw [z]; exact hel
        · rw [z]; exact hil
      rw [upd_ne (Nat.ne_of_lt hb')]
      exact (hf b hb).1
  done := by
    intro X hP hw hK hc i pins s σ H E I hf st hg
    subst hP hw hK
    obtain ⟨⟨old, he⟩, hit, hne, hle⟩ := st
    have hi : i = x.cps.size := Nat.le_antisymm hle hg
    subst hi
    obtain ⟨f0, f1, f2, f3, f4, f5⟩ := hf it (by simp)
    have D := Draws.strAscii (prog := X.prog) (w := X.w) (A := X.A.in1) (I.ok.hd hc) it x t
    exact wpAny_pyNext_enum_endD D he hit fun h' eb => ⟨rfl, I.turned (t' := s.toks) (fun b o hb q => eb b o hb q) f0 f1 f3 f4 f5⟩
  self := fun A i s Q E st h => let ⟨⟨_, he⟩, _⟩ := st; wpAny_pyIter_enum he h
def iEnumS (ta : TA) : TI := fun σ H R => ta σ H fun vs H1 => ∃ x, vs = [.str x] ∧ Asc7 x ∧ R (IteS x) H1
theorem pi_enumS {X : Cx} {e : Expr} {ta : TA} {p pos tpos : Pos} {elts : List Expr} {kk : Nat} (hg : Gl X "enumerate") (hm : X.mg "enumerate" = none) (ha : PA X [e] ta) (hs : starEach [e] X.env = [(false, eval e X.env)] := by rfl) :
    PI X (.Tuple elts kk tpos) (.Call (.Name "enumerate" p) [e] [] pos) (iEnumS ta) := by
  constructor
  intro pins s σ H R I h
  refine Call_ (ld_blt I hg hm boot_enumerate (PyProof.Rows.callWith_type1 (thn (ha.run pos pins s σ H _ I h) ?_) hs rfl))
  rintro us s1 ⟨vs, H1, I1, r1, x, rfl, hx, q⟩
  cases r1 with
  | cons r rr =>
    cases rr
    obtain ⟨t, rfl⟩ := r
    refine enum1_begins (begins_text x t) trivial fun h' he hit hk => wpAny_pyIter_enum he ?_
    have I2 : Inv X pins σ H1 { s1 with heap := h' } := I1.kept (t' := s1.toks) hk
    refine ⟨s1.heap.objs.size + 1, [s1.heap.objs.size + 1, s1.heap.objs.size], _, _, H1, rfl, I2, turn_enumS x t (s1.heap.objs.size + 1) s1.heap.objs.size, ⟨⟨.none, he⟩, ⟨_, hit, by rw [← hx], rfl⟩, Nat.succ_ne_self _, Nat.zero_le _⟩, fun b hb => ?_, q⟩
    have hle : s1.heap.objs.size ≤ b := by
      rcases (show b = s1.heap.objs.size + 1 ∨ b = s1.heap.objs.size by simpa using hb) with z | z
      · rw [z]; exact Nat.le_add_right _ _
      · rw [z]; exact Nat.le_refl _
    exact I1.fpOk hle (I1.hok.fresh hle)
theorem for_enumS {g : TG} {tb : TS} {D : Ends} {σ : L2.St} {H : Hp} {x : Str} (Pv : Nat → L2.St → Hp → Prop) (h0 : Pv 0 σ H)
    (hs : ∀ i c σ' H' T, x.cps[i]? = some c → Pv i σ' H' → H' T = none → g (.ref T) σ' (upd H' T (.tup [.int (i : Nat), .str ⟨#[c]⟩])) fun σ2 H2 => tb { D with nx := Pv (i + 1), ct := Pv (i + 1), bk := D.nx } σ2 H2) (hd : ∀ σ' H', Pv x.cps.size σ' H' → D.nx σ' H') : forK g tb D σ (IteS x) H := by
  refine ⟨fun i m σ H => i ≤ x.cps.size ∧ m = x.cps.size - i ∧ Pv i σ H, ⟨x.cps.size, Nat.zero_le _, by omega, h0⟩, ?_⟩
  rintro i m σ H ⟨hi, rfl, p⟩
  rcases Nat.lt_or_ge i x.cps.size with h | h
  · refine Or.inr ⟨h, Pv (i + 1), fun σ' H' p' => ⟨x.cps.size - (i + 1), by omega, h, rfl, p'⟩, ?_⟩
    rintro v H' ⟨T, c, rfl, hT, rfl, hx⟩
    exact hs i c σ H T hx p hT
  · have e : i = x.cps.size := by omega
    subst e
    exact Or.inl ⟨Nat.le_refl _, hd σ H p⟩
end Mine
namespace Mine
open PySem PySem.Spec PyProof.Rows L2
/-! list(a text) -/
def sign (c : Nat) : V := .str ⟨#[c]⟩
def rListS : List V → Hp → VK → Prop := fun xs H Q => ∃ x : Str, xs = [.str x] ∧ x.cps.size ≤ 1000 ∧ ∀ l, H l = none → Q (.ref l) (upd H l (.lst (x.cps.toList.map sign)))
theorem signs_vals {x : Str} {acc : Array Value} (h : ItemsOf (SignAt x) acc x.cps.size) : Vals (x.cps.toList.map sign) acc.toList := by
  obtain ⟨hs, hi⟩ := h
  have gen : ∀ (cs : List Nat) (us : List Value), cs.length = us.length → (∀ (j : Nat) (v : Value), us[j]? = some v → ∃ c u, cs[j]? = some c ∧ v = Value.str ⟨#[c]⟩ u) → Vals (cs.map sign) us := by
    intro cs
    induction cs with
    | nil =>
      intro us l _
      cases us with
      | nil => exact .nil
      | cons u us => cases l
    | cons c cs ih =>
      intro us l h
      cases us with
      | nil => cases l
      | cons u us =>
        obtain ⟨c', t, hc, hv⟩ := h 0 u rfl
        cases hc
        refine .cons ⟨t, hv⟩ (ih us (by simpa using l) fun j v hj => ?_)
        exact h (j + 1) v hj
  refine gen _ _ (by simp [hs]) fun j v hj => ?_
  obtain ⟨c, u, h1, h2⟩ := hi j v (by simpa using hj)
  exact ⟨c, u, by simpa using h1, h2⟩
theorem cr_listS {X : Cx} (hc : X.calm = true) : CallR X (.type "list") rListS := by
  rintro pins s σ H xs us Q I rv ⟨x, rfl, l1, q⟩
  cases rv with
  | cons r rr =>
    cases rr
    obtain ⟨t, rfl⟩ := r
    refine callType_codes F.called_list (F.typeCall_list_1 _) F.entry_list_init (Q₁ := fun obj s1 => obj = .ref s.heap.objs.size ∧ s1 = { s with heap := s.heap.push { cls := .type "list", data := .seq #[] } }) (code_list_new _ ⟨rfl, rfl⟩) ?_
    rintro obj s1 ⟨rfl, rfl⟩
    have new := Heap.get?_push_size s.heap (o := { cls := .type "list", data := .seq #[] }) rfl
    refine ⟨⟨_, new, rfl⟩, F.args_list_init_2 _ _, ?_⟩
    refine wpAny_list_init_str (A := X.A.in1) (s := { s with heap := s.heap.push { cls := .type "list", data := .seq #[] } }) (I.ok.hd hc) x t s.heap.objs.size new (fun h' tk acc c' hk hl items => ?_) (Nat.le_trans l1 (by decide))
    refine ⟨rfl, .ref _, upd H s.heap.objs.size (.lst (x.cps.toList.map sign)), ?_, rfl, q _ (I.hok.fresh (Nat.le_refl _))⟩
    refine I.laid (t' := tk) (fun b u hb => hk b u (fun e => by have h := Heap.lt_size hb; rw [e] at h; exact Nat.lt_irrefl _ h) (Heap.get?_push_of_some _ hb)) (Nat.le_refl _) ?_
    exact ⟨by rw [List.length_map]; exact Nat.le_trans (show x.cps.toList.length ≤ 1000 by simpa using l1) (by decide), acc.toList, c', signs_vals items, by simpa using hl⟩
end Mine
namespace Mine
open PySem PySem.Spec PyProof.Rows L2
/-- sep.join(a list of texts) -/
def rJoinS (K : PySem.W.Frag) : V → List V → Hp → VK → Prop := fun x xs H Q => ∃ a p, ∃ ys : List Str, x = .str a ∧ xs = [.ref p] ∧ (SqL K H p (ys.map V.str) ∨ SqT K H p (ys.map V.str)) ∧ (ys.map (·.length)).sum + ys.length * a.length ≤ 16777216 ∧ Q (.str (Txt.join a ys)) H
theorem mt_joinS {X : Cx} : MtR X "str.join" (rJoinS X.K) := mt_join
/-- the text of these signs -/
def tx (l : List Nat) : Str := ⟨l.toArray⟩
theorem tx_len (l : List Nat) : (tx l).length = l.length := by
  show l.toArray.size = _
  simp
theorem tx_cps (l : List Nat) : (tx l).cps.toList = l := by
  show l.toArray.toList = _
  simp
theorem tx_size (l : List Nat) : (tx l).cps.size = l.length := by
  show l.toArray.size = _
  simp
theorem tx_cat (a b : List Nat) : tx a ++ tx b = tx (a ++ b) := by
  show (⟨a.toArray ++ b.toArray⟩ : Str) = ⟨(a ++ b).toArray⟩
  rw [List.append_toArray]
theorem tx_inj {a b : List Nat} : tx a = tx b ↔ a = b := by
  constructor
  · intro h
    have := congrArg (fun z : Str => z.cps.toList) h
    simpa [tx] using this
  · intro h; rw [h]
theorem tx_cut (l : List Nat) (lo hi : Option Int) : cutS (tx l) lo hi = tx ((l.drop (HT.sIx l.length 0 lo)).take (HT.sIx l.length l.length hi - HT.sIx l.length 0 lo)) := by
  unfold cutS
  rw [tx_len, tx_cps]
  rfl
theorem tx_join (l : List Nat) : Txt.join (tx []) (l.map fun c => tx [c]) = tx l := by
  have gen : ∀ (cs : List Nat) (a : Array Nat), List.foldl (fun (acc : Array Nat) (p : Str) => acc ++ (tx []).cps ++ p.cps) a (cs.map fun c => tx [c]) = a ++ cs.toArray := by
    intro cs
    induction cs with
    | nil => intro a; simp
    | cons c cs ih =>
      intro a
      rw [List.map_cons, List.foldl_cons, ih]
      simp [tx]
  unfold Txt.join Builtin.Str.glued
  cases l with
  | nil => rfl
  | cons c cs =>
    show (⟨List.foldl (fun (acc : Array Nat) (p : Str) => acc ++ (tx []).cps ++ p.cps) (tx [c]).cps (cs.map fun c => tx [c])⟩ : Str) = _
    rw [gen]
    simp [tx]
end Mine
namespace Mine
open PySem PySem.Spec PyProof.Rows L2
open PySem.W (Frag)
/-! dicts, tuples and texts of the program's head -/
/-- d[k], d a dict of the head with texts as keys -/
def rKD (K : Frag) (d : Addr) : R2 := fun x y H Q => ∃ z u0 v0, x = .ref d ∧ y = .str z ∧ PySem.W.nsIn K d z = some (some u0) ∧ RelV v0 u0 ∧ Q v0 H
theorem ix_kd {X : Cx} {d : Addr} (D : ∃ es n, KDict X.K X.w d es n) : IxR X (rKD X.K d) := by
  obtain ⟨es, n, D⟩ := D
  rintro value slice pins s σ H x y v u Q I rx ry ⟨z, u0, v0, rfl, rfl, h1, h2, q⟩ hs
  have e : v = .ref d := rx
  subst e
  exact tail_any (T := "dict") (kd_type D I) F.slot_dict_getitem.lookup (op_item_kd D pins s σ H (.ref d) (.str z) (.ref d) u Q I rx ry ⟨z, u0, v0, rfl, rfl, h1, h2, q⟩) hs
/-- the items of a tuple of the head -/
def valsL : List V → List Value → Bool
  | [], [] => true
  | x :: xs, u :: us => He.relB x u && valsL xs us
  | _, _ => false
theorem valsL_ok : ∀ {xs : List V} {us : List Value}, valsL xs us = true → Vals xs us
  | [], [], _ => .nil
  | x :: xs, u :: us, h => by
    have h' : (He.relB x u && valsL xs us) = true := h
    rw [Bool.and_eq_true] at h'
    exact .cons (He.relB_ok h'.1) (valsL_ok h'.2)
  | [], _ :: _, h => by cases h
  | _ :: _, [], h => by cases h
def tupB (K : Frag) (a : Addr) (xs : List V) : Bool := match K.lookup a with
  | some ⟨cls, _, .seq its _, _⟩ => decide (cls = .type "tuple") && (decide (its.size ≤ 1000) && valsL xs its.toList)
  | _ => false
theorem tupB_ok {K : Frag} {a : Addr} {xs : List V} (h : tupB K a xs = true) (H : Hp) : SqT K H a xs := by
  unfold tupB at h
  split at h
  · rename_i cls dd its n sl e
    rw [Bool.and_eq_true, Bool.and_eq_true] at h
    exact Or.inr ⟨_, its, n, e, of_decide_eq_true h.1, rfl, Nat.le_trans (of_decide_eq_true h.2.1) (by decide), valsL_ok h.2.2⟩
  · cases h
/-- the tuple behind a key of a dict of the head -/
def kdA (K : Frag) (d k : Str) : Addr := match PySem.W.nsIn K (He.ga K d) k with
  | some (some (.ref a)) => a
  | _ => 0
def kdB (K : Frag) (d k : Str) (xs : List V) : Bool := match PySem.W.nsIn K (He.ga K d) k with
  | some (some (.ref a)) => tupB K a xs
  | _ => false
theorem kdB_ok {K : Frag} {d k : Str} {xs : List V} (h : kdB K d k xs = true) : PySem.W.nsIn K (He.ga K d) k = some (some (.ref (kdA K d k))) ∧ ∀ H, SqT K H (kdA K d k) xs := by
  unfold kdB at h
  unfold kdA
  split at h
  · rename_i a e
    rw [e]
    exact ⟨rfl, tupB_ok h⟩
  · cases h
theorem k_kd {K : Frag} {d k : Str} {xs : List V} {H : Hp} {Q : VK} (h : PySem.W.nsIn K (He.ga K d) k = some (some (.ref (kdA K d k))) ∧ ∀ H, SqT K H (kdA K d k) xs) (q : Q (.ref (kdA K d k)) H) : rKD K (He.ga K d) (.ref (He.ga K d)) (.str k) H Q :=
  ⟨k, _, .ref _, rfl, rfl, h.1, rfl, q⟩
theorem cst_okS {X : Cx} {x : Str} {z : Str} (h : ∃ t, X.mg x = some (.str z t)) : ∃ u, X.mg x = some u ∧ RelV (.str z) u :=
  let ⟨t, h⟩ := h; ⟨_, h, t, rfl⟩
/-! the head's facts with dicts -/
abbrev AlM : Type := He.AlD × List (Option (List (Option (Str × Int))))
def obsMT (fs : List (Frag → Bool)) (fn : List He5.DefA) (ts : List He.Tab) (K : Frag) : AlM := (obsM fs fn K, ts.map fun t => He.dicW K (t.1 K))
def valMT (fn : List He5.DefA) (ts : List He.Tab) (w : World) : AlM := (He5.valA fn, ts.map fun t => some (He.keysIn w.params t.2))
def SaysMT (fs : List (Frag → Bool)) (fn : List He5.DefA) (ts : List He.Tab) (w : World) (K : Frag) : Prop := obsMT fs fn ts K = valMT fn ts w
def obsMTG (n : Nat) (fs : List (Frag → Bool)) (fn : List He5.DefA) (ts : List He.Tab) (g : Addr → Option Obj) : AlM := obsMT fs fn ts (He.frG g (He5.asA g n))
@[reducible] def hookMT (n : Nat) (fs : List (Frag → Bool)) (fn : List He5.DefA) (ts : List He.Tab) : PySem.W.Hook where
  α := AlM
  obs s := obsMTG n fs fn ts s.heap.get?
  val w := valMT fn ts w
  says w h := ∃ K : Frag, K.In h ∧ SaysMT fs fn ts w K
  of _ _ e := ⟨_, He.frG_in, e⟩
  keeps _ _ _ := fun ⟨K, hK, c⟩ k => ⟨K, PySem.W.Frag.In.keeps hK k, c⟩
theorem obsMTG_eq {n : Nat} {fs : List (Frag → Bool)} {fn : List He5.DefA} {ts : List He.Tab} {g : Addr → Option Obj} {s : Shared} (h : ∀ a, g a = s.heap.get? a) :
    obsMTG n fs fn ts g = (hookMT n fs fn ts).obs s := by
  have e : g = s.heap.get? := funext h
  subst e
  rfl
theorem SaysMT.m {fs : List (Frag → Bool)} {fn : List He5.DefA} {ts : List He.Tab} {w : World} {K : Frag} (c : SaysMT fs fn ts w K) : SaysM fs fn K := congrArg (fun z : AlM => z.1) c
theorem SaysMT.tab {fs : List (Frag → Bool)} {fn : List He5.DefA} {ts : List He.Tab} {w : World} {K : Frag} (c : SaysMT fs fn ts w K) (i : Nat) {t : He.Tab} (h : ts[i]? = some t) : ∃ es n, KDict K w (t.1 K) es n := by
  have e := congrArg (fun z : AlM => z.2[i]?) c
  have e2 : (ts.map fun t => He.dicW K (t.1 K))[i]? = (ts.map fun t => some (He.keysIn w.params t.2))[i]? := e
  simp only [List.getElem?_map, h, Option.map_some, Option.some.injEq] at e2
  exact He.dicW_ok e2
end Mine
namespace Mine
open PySem PySem.Spec PyProof.Rows L2
open Evl (Ex)
/-! rows of toads and frogs: T is 84, F is 70, a free place is 46 -/
structure FFrogs (K : PySem.W.Frag) : Prop where
  cl : Cls K (He.ga K "Frogs")
  na : NoAttr K (He.ga K "Frogs") "_line"
structure FSIGNS (K : PySem.W.Frag) : Prop where
  tu : ∀ H, SqT K H (He.ga K "SIGNS") [.str "T", .str "F", .str "."]
structure FMOVERS (K : PySem.W.Frag) : Prop where
  l : PySem.W.nsIn K (He.ga K "MOVERS") "left" = some (some (.ref (kdA K "MOVERS" "left"))) ∧ ∀ H, SqT K H (kdA K "MOVERS" "left") [.str "T", .str "F", .int 1]
  r : PySem.W.nsIn K (He.ga K "MOVERS") "right" = some (some (.ref (kdA K "MOVERS" "right"))) ∧ ∀ H, SqT K H (kdA K "MOVERS" "right") [.str "F", .str "T", .int (-1)]
def gfs (l : Str) : List (Str × V) := putF "_line" (.str l) []
theorem gfs_get (l : Str) : (gfs l).lookup ("_line" : Str) = some (.str l) := by
  unfold gfs
  rw [lookup_putF, if_pos rfl]
theorem gfs_no (l : Str) {m : Str} (h : ¬ m = "_line") : (gfs l).lookup m = none := by
  unfold gfs
  rw [lookup_putF, if_neg h]
  rfl
theorem s_T : ("T" : Str) = tx [84] := rfl
theorem s_F : ("F" : Str) = tx [70] := rfl
theorem s_dot : ("." : Str) = tx [46] := rfl
def OkL (l : List Nat) : Prop := l.length ≤ 12 ∧ ∀ c ∈ l, c = 84 ∨ c = 70 ∨ c = 46
theorem OkL.asc {l : List Nat} (h : OkL l) : Asc7 (tx l) := by
  unfold Asc7 strIterType tx
  rw [if_pos]
  rw [List.all_toArray, List.all_eq_true]
  intro c m
  rcases h.2 c m with rfl | rfl | rfl <;> rfl
/-- a board -/
def FgAt (K : PySem.W.Frag) (H : Hp) (b : Addr) (l : List Nat) : Prop := ∃ dx, H b = some (.ins (He.ga K "Frogs") dx (gfs (tx l)))
theorem FgAt.keep {K : PySem.W.Frag} {H H' : Hp} {b : Addr} {l : List Nat} (h : FgAt K H b l) (k : ∀ c o, H c = some o → (∀ ys, o ≠ .lst ys) → H' c = some o) : FgAt K H' b l := let ⟨dx, h1⟩ := h; ⟨dx, k _ _ h1 (fun ys z => by cases z)⟩
theorem FgAt.ex {K : PySem.W.Frag} {H H' : Hp} {b : Addr} {l : List Nat} (h : FgAt K H b l) (e : Ex H H') : FgAt K H' b l := h.keep fun c o z _ => e c o z
def FgV (K : PySem.W.Frag) (H : Hp) (y : V) (l : List Nat) : Prop := ∃ b, y = .ref b ∧ FgAt K H b l
theorem FgV.keep {K : PySem.W.Frag} {H H' : Hp} {y : V} {l : List Nat} (h : FgV K H y l) (k : ∀ c o, H c = some o → (∀ ys, o ≠ .lst ys) → H' c = some o) : FgV K H' y l := let ⟨b, r, z⟩ := h; ⟨b, r, z.keep k⟩
theorem FgV.ex {K : PySem.W.Frag} {H H' : Hp} {y : V} {l : List Nat} (h : FgV K H y l) (e : Ex H H') : FgV K H' y l := h.keep fun c o z _ => e c o z
def DuF (H : Hp) (y : V) (l : List Nat) : Prop := ∃ d, y = .ref d ∧ H d = some (.tup [.str "frogs", .str (tx l)])
theorem DuF.keep {H H' : Hp} {y : V} {l : List Nat} (h : DuF H y l) (k : ∀ c o, H c = some o → (∀ ys, o ≠ .lst ys) → H' c = some o) : DuF H' y l := let ⟨d, r, z⟩ := h; ⟨d, r, k _ _ z (fun ys z => by cases z)⟩
theorem DuF.ex {H H' : Hp} {y : V} {l : List Nat} (h : DuF H y l) (e : Ex H H') : DuF H' y l := h.keep fun c o z _ => e c o z
abbrev BsF (K : PySem.W.Frag) (H : Hp) (ys : List V) (ls : List (List Nat)) : Prop := AllAt (FgV K) H ys ls
abbrev DsF (H : Hp) (ys : List V) (ls : List (List Nat)) : Prop := AllAt DuF H ys ls
/-! moves -/
def atL (l : List Nat) (i : Int) : Option Nat := if 0 ≤ i then l[i.toNat]? else none
theorem atL_nat (l : List Nat) (i : Nat) : atL l (i : Int) = l[i]? := by
  unfold atL
  rw [if_pos (by omega), Int.toNat_natCast]
def ownF (s : Str) : Nat := if s = "left" then 84 else 70
def jumF (s : Str) : Nat := if s = "left" then 70 else 84
def stpF (s : Str) : Int := if s = "left" then 1 else -1
def tgt (s : Str) (l : List Nat) (p : Nat) : Option Int := if atL l (p + stpF s) = some 46 then some (p + stpF s) else if atL l (p + stpF s) = some (jumF s) ∧ atL l (p + 2 * stpF s) = some 46 then some (p + 2 * stpF s) else none
def mvL (s : Str) (l : List Nat) (p : Nat) (q : Int) : List Nat := (l.set p 46).set q.toNat (ownF s)
def mvAtF (s : Str) (l : List Nat) (p : Nat) : List (List Nat) := if l[p]? = some (ownF s) then (tgt s l p).toList.map (mvL s l p) else []
def mvsF (s : Str) (l : List Nat) : List (List Nat) := (List.range l.length).flatMap (mvAtF s l)
theorem tgt_in {s : Str} {l : List Nat} {p : Nat} {q : Int} (h : tgt s l p = some q) : 0 ≤ q ∧ q < l.length ∧ atL l q = some 46 := by
  have key : ∀ i : Int, atL l i = some 46 → 0 ≤ i ∧ i < l.length ∧ atL l i = some 46 := by
    intro i hi
    have hi0 := hi
    unfold atL at hi
    split at hi
    · have := (List.getElem?_eq_some_iff.mp hi).1
      exact ⟨by omega, by omega, hi0⟩
    · cases hi
  unfold tgt at h
  split at h
  · rename_i h1
    cases h
    exact key _ h1
  · split at h
    · rename_i h1
      cases h
      exact key _ h1.2
    · cases h
theorem mvAt_len (s : Str) (l : List Nat) (p : Nat) : (mvAtF s l p).length ≤ 1 := by
  unfold mvAtF
  split
  · rw [List.length_map]
    cases tgt s l p <;> simp
  · simp
theorem mvsF_len (s : Str) (l : List Nat) (n : Nat) : ((List.range n).flatMap (mvAtF s l)).length ≤ n := by
  induction n with
  | zero => exact Nat.le_refl _
  | succ n ih =>
    rw [List.range_succ, List.flatMap_append, List.length_append, List.flatMap_cons, List.flatMap_nil, List.append_nil]
    have := mvAt_len s l n
    omega
theorem mvL_ok {s : Str} {l : List Nat} (ok : OkL l) (p : Nat) (q : Int) : OkL (mvL s l p q) := by
  refine ⟨by unfold mvL; rw [List.length_set, List.length_set]; exact ok.1, fun c m => ?_⟩
  unfold mvL at m
  rcases List.mem_or_eq_of_mem_set m with m | rfl
  · rcases List.mem_or_eq_of_mem_set m with m | rfl
    · exact ok.2 c m
    · exact Or.inr (Or.inr rfl)
  · unfold ownF
    split
    · exact Or.inl rfl
    · exact Or.inr (Or.inl rfl)
end Mine
namespace Mine
open PySem PySem.Spec PyProof.Rows L2
/-! each move takes something away -/
def phi : List Nat → Nat
  | [] => 0
  | c :: l => (if c = 84 then l.count 46 + l.count 70 else if c = 46 then l.count 70 else 0) + phi l
def cross (a b : List Nat) : Nat := a.count 84 * (b.count 46 + b.count 70) + a.count 46 * b.count 70
theorem phi_app (a b : List Nat) : phi (a ++ b) = phi a + cross a b + phi b := by
  induction a with
  | nil => simp [phi, cross]
  | cons c a ih =>
    show (if c = 84 then (a ++ b).count 46 + (a ++ b).count 70 else if c = 46 then (a ++ b).count 70 else 0) + phi (a ++ b) = (if c = 84 then a.count 46 + a.count 70 else if c = 46 then a.count 70 else 0) + phi a + cross (c :: a) b + phi b
    rw [ih, List.count_append, List.count_append]
    unfold cross
    by_cases h1 : c = 84
    · subst h1
      rw [if_pos rfl, if_pos rfl, List.count_cons_self, List.count_cons_of_ne (by decide), Nat.add_mul]
      omega
    · by_cases h2 : c = 46
      · subst h2
        rw [if_neg (by decide), if_pos rfl, if_neg (by decide), if_pos rfl, List.count_cons_of_ne (by decide), List.count_cons_self, Nat.add_mul]
        omega
      · rw [if_neg h1, if_neg h2, if_neg h1, if_neg h2, List.count_cons_of_ne h1, List.count_cons_of_ne h2]
        omega
theorem phi_mid {A B m m' : List Nat} (h1 : m.count 84 = m'.count 84) (h2 : m.count 46 = m'.count 46) (h3 : m.count 70 = m'.count 70) (h : phi m' + 1 ≤ phi m) : phi (A ++ m' ++ B) + 1 ≤ phi (A ++ m ++ B) := by
  rw [phi_app, phi_app, phi_app, phi_app]
  unfold cross
  rw [List.count_append, List.count_append, List.count_append, List.count_append, h1, h2, h3]
  omega
theorem phiF_le : ∀ l : List Nat, phi l ≤ l.count 84 * l.count 46 + l.count 84 * l.count 70 + l.count 46 * l.count 70
  | [] => by simp [phi]
  | c :: l => by
    have ih := phiF_le l
    show (if c = 84 then l.count 46 + l.count 70 else if c = 46 then l.count 70 else 0) + phi l ≤ _
    by_cases h1 : c = 84
    · subst h1
      rw [if_pos rfl, List.count_cons_self, List.count_cons_of_ne (by decide), List.count_cons_of_ne (by decide), Nat.add_mul, Nat.add_mul]
      omega
    · by_cases h2 : c = 46
      · subst h2
        rw [if_neg (by decide), if_pos rfl, List.count_cons_of_ne (by decide), List.count_cons_self, List.count_cons_of_ne (by decide), Nat.add_mul, Nat.mul_add]
        omega
      · rw [if_neg h1, if_neg h2, List.count_cons_of_ne h1, List.count_cons_of_ne h2]
        by_cases h3 : c = 70
        · subst h3
          rw [List.count_cons_self, Nat.mul_add, Nat.mul_add]
          omega
        · rw [List.count_cons_of_ne h3]
          omega
theorem counts_le : ∀ l : List Nat, l.count 84 + l.count 46 + l.count 70 ≤ l.length
  | [] => by simp
  | c :: l => by
    have ih := counts_le l
    rw [List.length_cons]
    by_cases h1 : c = 84
    · subst h1
      rw [List.count_cons_self, List.count_cons_of_ne (by decide), List.count_cons_of_ne (by decide)]; omega
    · by_cases h2 : c = 46
      · subst h2
        rw [List.count_cons_of_ne (by decide), List.count_cons_self, List.count_cons_of_ne (by decide)]; omega
      · by_cases h3 : c = 70
        · subst h3
          rw [List.count_cons_of_ne (by decide), List.count_cons_of_ne (by decide), List.count_cons_self]; omega
        · rw [List.count_cons_of_ne h1, List.count_cons_of_ne h2, List.count_cons_of_ne h3]; omega
theorem three_le : ∀ a, a ≤ 12 → ∀ b, b ≤ 12 → ∀ c, c ≤ 12 → a + b + c ≤ 12 → a * b + a * c + b * c ≤ 48 := by
  decide +kernel
theorem phi_48 {l : List Nat} (h : l.length ≤ 12) : phi l ≤ 48 := by
  have h1 := phiF_le l
  have h2 := counts_le l
  exact Nat.le_trans h1 (three_le _ (by omega) _ (by omega) _ (by omega) (by omega))
theorem split2 {l : List Nat} {p x y : Nat} (h1 : l[p]? = some x) (h2 : l[p + 1]? = some y) : l = l.take p ++ [x, y] ++ l.drop (p + 2) := by
  have l2 := (List.getElem?_eq_some_iff.mp h2).1
  have a1 := (List.getElem?_eq_some_iff.mp h1).2
  have a2 := (List.getElem?_eq_some_iff.mp h2).2
  have e1 : l.drop p = x :: l.drop (p + 1) := by rw [List.drop_eq_getElem_cons (by omega), a1]
  have e2 : l.drop (p + 1) = y :: l.drop (p + 2) := by rw [List.drop_eq_getElem_cons (by omega), a2]
  rw [List.append_assoc]
  show l = l.take p ++ (x :: y :: l.drop (p + 2))
  rw [← e2, ← e1, List.take_append_drop]
theorem split3 {l : List Nat} {p x y z : Nat} (h1 : l[p]? = some x) (h2 : l[p + 1]? = some y) (h3 : l[p + 2]? = some z) : l = l.take p ++ [x, y, z] ++ l.drop (p + 3) := by
  have l3 := (List.getElem?_eq_some_iff.mp h3).1
  have a3 := (List.getElem?_eq_some_iff.mp h3).2
  have e3 : l.drop (p + 2) = z :: l.drop (p + 3) := by rw [List.drop_eq_getElem_cons (by omega), a3]
  have e := split2 h1 h2
  rw [List.append_assoc] at e ⊢
  show l = l.take p ++ (x :: y :: z :: l.drop (p + 3))
  rw [← e3]
  exact e
theorem set_in {A B m : List Nat} {i v : Nat} (h : i < m.length) : (A ++ m ++ B).set (A.length + i) v = A ++ m.set i v ++ B := by
  rw [List.append_assoc, List.set_append_right _ _ (by omega), Nat.add_sub_cancel_left, List.set_append_left _ _ h, ← List.append_assoc]
end Mine
namespace Mine
open PySem PySem.Spec PyProof.Rows L2
theorem atL_some {l : List Nat} {i : Int} {c : Nat} (h : atL l i = some c) : ∃ n : Nat, i = (n : Int) ∧ l[n]? = some c := by
  unfold atL at h
  split at h
  · exact ⟨i.toNat, by omega, h⟩
  · cases h
theorem set2 {A B : List Nat} {x y v w : Nat} {p q i j : Nat} {m : List Nat} (hp : p = A.length + i) (hq : q = A.length + j) (hi : i < m.length) (hj : j < m.length) : ((A ++ m ++ B).set p v).set q w = A ++ (m.set i v).set j w ++ B := by
  subst hp hq
  rw [set_in hi, set_in (by rw [List.length_set]; exact hj)]
theorem phi_mv {s : Str} {l : List Nat} {p : Nat} {q : Int} (hp : l[p]? = some (ownF s)) (h : tgt s l p = some q) : phi (mvL s l p q) + 1 ≤ phi l := by
  have lp := (List.getElem?_eq_some_iff.mp hp).1
  unfold tgt at h
  unfold mvL
  by_cases z : s = "left"
  · have o : ownF s = 84 := by unfold ownF; rw [if_pos z]
    have u : jumF s = 70 := by unfold jumF; rw [if_pos z]
    have t : stpF s = 1 := by unfold stpF; rw [if_pos z]
    rw [o] at hp ⊢
    rw [u, t] at h
    split at h
    · rename_i h1
      cases h
      obtain ⟨n, en, hn⟩ := atL_some h1
      have e : n = p + 1 := by omega
      subst e
      have tl : (l.take p).length = p := by rw [List.length_take]; omega
      have sp := split2 hp hn
      generalize l.take p = A at *
      generalize l.drop (p + 2) = B at *
      subst sp
      rw [set2 (x := 0) (y := 0) (i := 0) (j := 1) (by omega) (by omega) (by decide) (by decide)]
      exact phi_mid (by decide) (by decide) (by decide) (by decide)
    · split at h
      · rename_i h2
        obtain ⟨h1, h2⟩ := h2
        cases h
        obtain ⟨n, en, hn⟩ := atL_some h1
        obtain ⟨n2, en2, hn2⟩ := atL_some h2
        have e : n = p + 1 := by omega
        have e2 : n2 = p + 2 := by omega
        subst e e2
        have tl : (l.take p).length = p := by rw [List.length_take]; omega
        have sp := split3 hp hn hn2
        generalize l.take p = A at *
        generalize l.drop (p + 3) = B at *
        subst sp
        rw [set2 (x := 0) (y := 0) (i := 0) (j := 2) (by omega) (by omega) (by decide) (by decide)]
        exact phi_mid (by decide) (by decide) (by decide) (by decide)
      · cases h
  · have o : ownF s = 70 := by unfold ownF; rw [if_neg z]
    have u : jumF s = 84 := by unfold jumF; rw [if_neg z]
    have t : stpF s = -1 := by unfold stpF; rw [if_neg z]
    rw [o] at hp ⊢
    rw [u, t] at h
    split at h
    · rename_i h1
      cases h
      obtain ⟨n, en, hn⟩ := atL_some h1
      have e : p = n + 1 := by omega
      subst e
      have tl : (l.take n).length = n := by rw [List.length_take]; omega
      have sp := split2 hn hp
      generalize l.take n = A at *
      generalize l.drop (n + 2) = B at *
      subst sp
      rw [set2 (x := 0) (y := 0) (i := 1) (j := 0) (by omega) (by omega) (by decide) (by decide)]
      exact phi_mid (by decide) (by decide) (by decide) (by decide)
    · split at h
      · rename_i h2
        obtain ⟨h1, h2⟩ := h2
        cases h
        obtain ⟨n, en, hn⟩ := atL_some h1
        obtain ⟨n2, en2, hn2⟩ := atL_some h2
        have e : p = n2 + 2 := by omega
        have e2 : n = n2 + 1 := by omega
        subst e e2
        have tl : (l.take n2).length = n2 := by rw [List.length_take]; omega
        have sp := split3 hn2 hn hp
        generalize l.take n2 = A at *
        generalize l.drop (n2 + 3) = B at *
        subst sp
        rw [set2 (x := 0) (y := 0) (i := 2) (j := 0) (by omega) (by omega) (by decide) (by decide)]
        exact phi_mid (by decide) (by decide) (by decide) (by decide)
      · cases h
theorem mvsF_phi {s : Str} {l : List Nat} : ∀ m ∈ mvsF s l, phi m + 1 ≤ phi l := by
  intro m h
  obtain ⟨p, _, h⟩ := List.mem_flatMap.mp h
  unfold mvAtF at h
  split at h
  · rename_i hp
    obtain ⟨q, hq, rfl⟩ := List.mem_map.mp h
    rw [Option.mem_toList] at hq
    exact phi_mv hp hq
  · cases h
theorem mvsF_ok {s : Str} {l : List Nat} (ok : OkL l) : ∀ m ∈ mvsF s l, OkL m := by
  intro m h
  obtain ⟨p, _, h⟩ := List.mem_flatMap.mp h
  unfold mvAtF at h
  split at h
  · obtain ⟨q, hq, rfl⟩ := List.mem_map.mp h
    exact mvL_ok ok p q
  · cases h
end Mine
namespace Mine
open PySem PySem.Spec PyProof.Rows L2
open Sem (wp)
/-! {x}: a set of one int -/
def tSet1 (w : World) (te : TE) : TE := fun σ H Q => ∀ p, H p = none → te σ (upd H p (SetO w p (fun _ => false) 0)) fun v H1 => ∃ k : Int, v = V.int k ∧ H1 p = some (SetO w p (fun _ => false) 0) ∧ Q (.ref p) (upd H1 p (SetO w p (fun j => decide (j = k)) 1))
theorem code_kds {K : PySem.W.Frag} {cd : Value} {q : Str} (h : PySem.W.codeIn K cd q = true) : PySem.W.kdsCode K cd = true := by
  unfold PySem.W.codeIn at h
  unfold PySem.W.kdsCode
  split at h
  · split at h
    · rename_i e
      dsimp only
      rw [e]
    · cases h
  · cases h
theorem pe_set1 {X : Cx} {e : Expr} {te : TE} {pos : Pos} (hc : PySem.W.kdsCode X.K X.env.code = true) (he : PE X e te) (hs : starEach [e] X.env = [(false, eval e X.env)] := by rfl) : PE X (.Set [e] 0 pos) (tSet1 X.w te) := by
  refine ⟨fun pins s σ H Q I h => ?_⟩
  rw [arm_eval_Set]
  refine wpAny_bind (wpAny_standAt ?_)
  refine wpAny_bind (PySem.W.kds_main (I.kIn) hc fun b => ?_)
  rw [hs]
  unfold setDisplay
  dsimp only
  have road : (displayRoad 0 [e] == DisplayRoad.constants) = false := rfl
  rw [road, if_neg (by decide)]
  refine wpAny_bind (wpAny_newSet_raw fun led hl => ?_)
  subst hl
  have hn := I.hok.fresh (Nat.le_refl s.heap.objs.size)
  have R0 := setR_fresh (h := s.heap) X.w
  have I1 := I.laid (a := s.heap.objs.size) (o := SetO X.w s.heap.objs.size (fun _ => false) 0) (t' := s.toks) (fun _ _ q => Heap.get?_push_of_some _ q) (Nat.le_refl _) (setO_new R0)
  refine wpAny_bind (wpAny_holding ?_)
  refine wpAny_bind (m := evalAll [(do let v ← eval e X.env; standAt pos; pure v)]) ?_
  refine wpAny_mono (PySem.W.kds_all (env := X.env) pos [e] _ (fun vs s' => ∃ (k : Int) (tk : Tok) (H1 : Hp), vs = [Value.int k tk] ∧ Inv X pins σ H1 s' ∧ H1 s.heap.objs.size = some (SetO X.w s.heap.objs.size (fun _ => false) 0) ∧ Q (.ref s.heap.objs.size) (upd H1 s.heap.objs.size (SetO X.w s.heap.objs.size (fun j => decide (j = k)) 1))) ?_) (fun vs s' h' => ?_) fun _ _ x => x
  · refine thn (he.run pins _ σ _ _ I1 (h _ hn)) fun u s1 z => ?_
    obtain ⟨v, H1, I2, rv, k, rfl, hp, q⟩ := z
    obtain ⟨tk, rfl⟩ := rv
    exact ⟨k, tk, H1, rfl, I2, hp, q⟩
  · obtain ⟨k, tk, H1, rfl, I2, hp, q⟩ := h'
    refine wpAny_bind (wpAny_holding ?_)
    refine wpAny_bind ?_
    rw [List.forIn_cons]
    refine wpAny_bind (wpAny_bind ?_)
    unfold setAdd
    refine wpAny_holding ?_
    refine wpAny_bind ((intKind X.prog X.w).pyHash (k := k) (intKind_is _ _ _ _) ?_)
    refine setR_add_hashed (s := { s' with toks := s'.toks + 1 }) (show SetR X.w s'.heap s.heap.objs.size (fun _ => false) 0 from setO_get I2 hp) (by decide) fun h' sb R => ?_
    refine wpAny_pure ?_
    dsimp only
    rw [List.forIn_nil]
    refine wpAny_pure ?_
    have road2 : (displayRoad 0 [e] == DisplayRoad.unsure) = false := rfl
    rw [road2, if_neg (by decide)]
    refine wpAny_pure ?_
    show wpAny _ _ (forIn [] _ _ >>= _) _ _ _
    rw [List.forIn_nil]
    refine wpAny_pure (wpAny_pure ?_)
    have hex : ∃ u, h'.get? s.heap.objs.size = some u := by
      have ⟨o, _, _, _, ho, _⟩ := R
      exact ⟨o, ho⟩
    have R2 : SetR X.w h' s.heap.objs.size (fun j => decide (j = k)) 1 := R.congr fun j => by simp
    exact ⟨.ref s.heap.objs.size, _, I2.write (x := s.heap.objs.size) (e := s.heap.objs.size) (t' := s'.toks + 1) (by rw [hp]; exact True.intro) (.inl rfl) (fun b u hb y => (sb.2 b hb).trans y) hex (setO_new R2), rfl, q⟩
/-- a def whose body asks for its own code -/
theorem okC {P : Program} {w : World} {K : PySem.W.Frag} {mg : Str → Option Value} {base : Heap} {x qual : Str} {params : Arguments} {body : List Stmt} {scope : Scope} {dvs : List V} {kws : List (Str × V)} {f : Addr} {fd : FuncData} {CX : CXT} {N ps : List Str} {k : Nat} {sp : Sp}
    (F : FunD K x qual params body scope dvs kws f fd) (S : FnScope N ps scope) (len : ∀ vs H Q E, sp vs H Q E → vs.length = ps.length)
    (hbody : ∀ (cdv : Value), PySem.W.kdsCode K cdv = true → ∀ (A : Around) (outer : List Env) (s : Shared) (H : Hp) (vs : List V) (Q : VK) (E : XK), Room k (A.deeper (envOfC qual scope s.heap.objs.size f cdv)) → sp vs H Q E →
      ∃ t, PSs (cxOf CX P w K mg base N qual scope f cdv A outer s H E) body t ∧ t { nx := fun _ H' => Q .non H', rt := Q } (start N vs) H) : FnOk P w K mg base CX (k + 1) f fd ps sp := by
  obtain ⟨_, _, _, _, _, _, _, cdv, _, _, rfl, lk, hcd, _⟩ := F.ex
  exact fn_of lk hcd S len fun A outer s H vs Q E hr hsp => hbody cdv (code_kds hcd) A outer s H vs Q E hr hsp
end Mine
namespace Mine
open PySem PySem.Spec PyProof.Rows L2
open Evl (Ex)
section
variable {H : Hp} {Q : VK} {K : PySem.W.Frag} {w : World} {σ : L2.St}
theorem k_dnew (q : ∀ p, H p = none → Q (.ref p) (upd H p (.dK []))) : tDNewK σ H Q := q
theorem k_set1 {te : TE} (q : ∀ p, H p = none → te σ (upd H p (SetO w p (fun _ => false) 0)) fun v H1 => ∃ k : Int, v = V.int k ∧ H1 p = some (SetO w p (fun _ => false) 0) ∧ Q (.ref p) (upd H1 p (SetO w p (fun j => decide (j = k)) 1))) : tSet1 w te σ H Q := q
theorem k_sadd {te : TE} {t : TA} (q : te σ H fun x H1 => (∃ a S n, x = V.ref a ∧ H1 a = some (SetO w a S n)) ∧ t σ H1 fun xs H2 => rSAdd w x xs H2 Q) : tSAdd w te t σ H Q := q
theorem k_sIn {k : Int} {a : Addr} {S : Int → Bool} {n : Nat} (h : H a = some (SetO w a S n)) (q : Q (.bl (S k)) H) : rSIn w (.int k) (.ref a) H Q := ⟨k, a, S, n, rfl, rfl, h, q⟩
theorem k_sNot {k : Int} {a : Addr} {S : Int → Bool} {n : Nat} (h : H a = some (SetO w a S n)) (q : Q (.bl (!S k)) H) : rSNotIn w (.int k) (.ref a) H Q := ⟨k, a, S, n, rfl, rfl, h, q⟩
theorem k_gsub {to ti : TE} {t : TSet} {v : V} {R : L2.St → Hp → Prop} (q : to σ H fun o H1 => ti σ H1 fun i H2 => t o i v H2 fun H3 => R σ H3) : gSub to ti t v σ H R := q
theorem k_rng3 {ta : TA} {R : It → Hp → Prop} (q : ta σ H fun vs H1 => ∃ (i j c : Int) (n : Nat), vs = [V.int i, V.int j, V.int c] ∧ RgC i j c n ∧ R (Itc i c n) H1) : iRng3 ta σ H R := q
theorem k_tru {te : TE} {R : Bool → Hp → Prop} (q : te σ H fun x H' => ∃ k, TruV K x H' k ∧ R k H') : tTru K te σ H R := q
theorem tru_L {a : Addr} {xs : List V} {R : Bool → Prop} (h : SqL K H a xs) (q : R (!xs.isEmpty)) : ∃ k, TruV K (.ref a) H k ∧ R k := ⟨_, Or.inl ⟨xs, h, rfl⟩, q⟩
theorem k_rSAdd {a : Addr} {k : Int} {S : Int → Bool} {n : Nat} (h : H a = some (SetO w a S n)) (l : n ≤ 1000) (no : S k = false) (q : Q .non (upd H a (SetO w a (fun j => S j || decide (j = k)) (n + 1)))) : rSAdd w (.ref a) [.int k] H Q :=
  ⟨a, k, S, n, rfl, rfl, h, Nat.lt_of_le_of_lt (Nat.succ_le_succ l) (by decide), by rw [if_neg (by rw [no]; decide)]; exact q⟩
theorem k_rPop {l : Addr} {xs : List V} {y : V} (h : H l = some (.lst (xs ++ [y]))) (q : Q y (upd H l (.lst xs))) : rPop (.ref l) [] H Q :=
  ⟨l, xs ++ [y], y, rfl, rfl, h, by rw [List.length_append, List.length_singleton, Nat.add_sub_cancel, List.getElem?_append_right (Nat.le_refl _), Nat.sub_self]; rfl, by rw [List.dropLast_concat]; exact q⟩
theorem forK_tup {g : TG} {tb : TS} {D : Ends} {a : Addr} {xs : List V} (Pv : Nat → L2.St → Hp → Prop) (h0 : Pv 0 σ H) (hl : ∀ i σ' H', i ≤ xs.length → Pv i σ' H' → SqT K H' a xs)
    (hs : ∀ i x σ' H', xs[i]? = some x → Pv i σ' H' → g x σ' H' fun σ2 H2 => tb { D with nx := Pv (i + 1), ct := Pv (i + 1), bk := D.nx } σ2 H2) (hd : ∀ σ' H', Pv xs.length σ' H' → D.nx σ' H') : forK g tb D σ (Itt K a) H := for_tup Pv h0 hl hs hd
end
end Mine
namespace Mine
open PySem PySem.Spec PyProof.Rows L2
open Evl (Ex)
def rRepS : R2 := fun x y H Q => ∃ z n, x = .str z ∧ y = .int n ∧ MulOk z n ∧ Q (.str (Txt.mul z n)) H
theorem op_rep_str {X : Cx} : OpR X (binaryOp .Mult) rRepS := by
  rintro pins s σ H x y v u Q I rx ry ⟨z, n, rfl, rfl, ok, q⟩
  obtain ⟨t, rfl⟩ := rx
  obtain ⟨t', rfl⟩ := ry
  exact SB.mul ok fun t'' k => ⟨.str _, H, I.tok _, ⟨t'', rfl⟩, q⟩
section
variable {H : Hp} {K : PySem.W.Frag} {Q : VK}
theorem k_lenX {l : List Nat} (h : l.length ≤ 3000) (q : Q (.int (l.length : Nat)) H) : rLenS [.str (tx l)] H Q :=
  ⟨tx l, rfl, by rw [tx_len]; exact fits h, by rw [tx_len]; exact q⟩
theorem k_catX {a b : List Nat} (h : a.length + b.length ≤ 3000) (q : Q (.str (tx (a ++ b))) H) : rCatS (.str (tx a)) (.str (tx b)) H Q :=
  ⟨tx a, tx b, rfl, rfl, by rw [tx_len, tx_len]; exact fits h, by rw [tx_cat]; exact q⟩
theorem k_ixX {l : List Nat} {i : Int} {c : Nat} (h : l.length ≤ 3000) (e : atI l i = some c) (q : Q (.str (tx [c])) H) : rIxS (.str (tx l)) (.int i) H Q :=
  ⟨tx l, i, c, rfl, rfl, by rw [tx_len]; exact fits h, by rw [tx_cps]; exact e, q⟩
theorem k_slX {l : List Nat} {lo hi : Option Int} (h : l.length ≤ 3000) (q : Q (.str (tx ((l.drop (HT.sIx l.length 0 lo)).take (HT.sIx l.length l.length hi - HT.sIx l.length 0 lo)))) H) : rSlS (.str (tx l)) lo hi H Q :=
  ⟨tx l, rfl, by rw [tx_len]; exact fits h, by rw [tx_cut]; exact q⟩
theorem k_eqX {a b : List Nat} (q : Q (.bl (decide (a = b))) H) : rEq (.str (tx a)) (.str (tx b)) H Q := ⟨rfl, by
  have e : decide (V.str (tx a) = V.str (tx b)) = decide (a = b) := decide_eq_decide.mpr ⟨fun h => tx_inj.mp (V.str.inj h), fun h => by rw [h]⟩
  rw [e]; exact q⟩
theorem k_neX {a b : List Nat} (q : Q (.bl (!decide (a = b))) H) : rNe (.str (tx a)) (.str (tx b)) H Q := ⟨rfl, by
  have e : decide (V.str (tx a) = V.str (tx b)) = decide (a = b) := decide_eq_decide.mpr ⟨fun h => tx_inj.mp (V.str.inj h), fun h => by rw [h]⟩
  first
    | (rw [← e] at q; exact q)
    | (show Q _ H; rw [← e] at q; simpa using q)⟩
theorem k_eqNX {b : Str} (q : Q (.bl false) H) : rEq .non (.str b) H Q := ⟨rfl, by
  have e : decide (V.non = V.str b) = false := decide_eq_false (fun h => by cases h)
  rw [e]; exact q⟩
theorem k_inX {c : Nat} {b : List Nat} (q : Q (.bl (decide (c ∈ b))) H) : rInS (.str (tx [c])) (.str (tx b)) H Q :=
  ⟨c, tx b, rfl, rfl, by rw [tx_cps]; exact q⟩
def okc (c : Nat) : Bool := decide (c = 84) || (decide (c = 70) || decide (c = 46))
theorem k_signs (F : FSIGNS K) {c : Nat} (q : Q (.bl (okc c)) H) : rIn K false (.str (tx [c])) (.ref (He.ga K "SIGNS")) H Q := by
  refine ⟨_, _, rfl, Or.inr (F.tu H), rfl, rfl, ?_⟩
  have e : inV (V.str (tx [c])) [.str "T", .str "F", .str "."] = okc c := by
    have key : ∀ d : Nat, eqV (V.str (tx [d])) (V.str (tx [c])) = decide (c = d) := by
      intro d
      show decide (tx [d] = tx [c]) = _
      refine decide_eq_decide.mpr ⟨fun h => ?_, fun h => by rw [h]⟩
      have := tx_inj.mp h
      injection this with h1
      exact h1.symm
    show (eqV (V.str (tx [84])) (V.str (tx [c])) || (eqV (V.str (tx [70])) (V.str (tx [c])) || (eqV (V.str (tx [46])) (V.str (tx [c])) || false))) = _
    rw [key, key, key, Bool.or_false]
    rfl
  rw [e]
  exact q
theorem k_allX {a : Addr} {bs : List Bool} (h : SqL K H a (bs.map V.bl)) (q : Q (.bl (bs.all id)) H) : rAll K [.ref a] H Q := ⟨a, bs, rfl, h, q⟩
theorem k_joinX {p : Addr} {l : List Nat} (h : SqL K H p (l.map fun c => V.str (tx [c]))) (few : l.length ≤ 3000) (q : Q (.str (tx l)) H) : rJoinS K (.str "") [.ref p] H Q := by
  refine ⟨tx [], p, l.map fun c => tx [c], rfl, rfl, Or.inl (by rw [List.map_map]; exact h), ?_, by rw [tx_join]; exact q⟩
  have e : (l.map fun c => tx [c]).map (·.length) = l.map fun _ => 1 := by
    rw [List.map_map]
    refine List.map_congr_left fun c _ => ?_
    show (tx [c]).length = 1
    rw [tx_len]; rfl
  have s : ∀ l : List Nat, (l.map fun _ => 1).sum = l.length := by
    intro l
    induction l with
    | nil => rfl
    | cons c l ih => rw [List.map_cons, List.sum_cons, ih, List.length_cons]; omega
  rw [e, s, List.length_map]
  have z : (tx []).length = 0 := rfl
  rw [z]
  omega
end
section
variable {g : TG} {tt : TT} {te : TE} {vs : List Nat} {σ : L2.St} {Q : VK} {H1 : Hp} {K : PySem.W.Frag}
theorem lcR_str {l : List Nat} (f : Nat → Option V) (len : l.length ≤ 3000) (t : ∀ (i c : Nat), l[i]? = some c → turnR g tt te vs σ (.str (tx [c])) (f c) H1)
    (q : ∀ D H', H1 D = none → Ex H1 H' → H' D = some (.lst (l.filterMap f)) → Q (.ref D) H') : lcR g tt te vs σ Q (Its (tx l)) H1 := by
  intro D hD
  refine ⟨fun i m H => i ≤ l.length ∧ m = l.length - i ∧ Ex H1 H ∧ H D = some (.lst ((l.take i).filterMap f)), ⟨l.length, Nat.zero_le _, by omega, Evl.Ex.new hD, upd_same⟩, ?_⟩
  rintro i m H ⟨hi, rfl, p⟩
  rcases Nat.lt_or_ge i l.length with h | h
  · refine Or.inr ⟨by show i < (tx l).cps.size; rw [tx_size]; exact h, fun H' => i + 1 ≤ l.length ∧ Ex H1 H' ∧ H' D = some (.lst ((l.take (i + 1)).filterMap f)), fun H' p' => ⟨l.length - (i + 1), by omega, by omega, rfl, p'.2⟩, ?_⟩
    rintro x H' ⟨rfl, c, hc, rfl⟩
    have hc' : l[i]? = some c := by
      have : (tx l).cps.toList[i]? = some c := by simpa using hc
      rw [tx_cps] at this
      exact this
    refine turn_in (t i c hc') p.1 hD p.2 (fits' ?_) fun H2 e h' => ⟨h, e, ?_⟩
    · refine Nat.le_trans (List.length_filterMap_le _ _) ?_
      rw [List.length_take]; omega
    · rw [h', List.take_add_one, hc', List.filterMap_append]
      cases h : f c <;> simp [h]
  · have e : i = l.length := by omega
    subst e
    refine Or.inl ⟨by show (tx l).cps.size ≤ l.length; rw [tx_size]; exact Nat.le_refl _, ?_⟩
    refine q D H hD p.1 ?_
    rw [p.2, List.take_of_length_le (Nat.le_refl _)]
theorem k_istr {te : TE} {R : It → Hp → Prop} {H : Hp} {σ : L2.St} (q : te σ H fun v H1 => ∃ x, v = .str x ∧ R (Its x) H1) : iStr te σ H R := q
end
end Mine
namespace Mine
open PySem PySem.Spec PyProof.Rows L2
open Evl (Ex)
def sgV : Option Nat → V
  | some c => .str (tx [c])
  | none => .non
def tgV : Option Int → V
  | some q => .int q
  | none => .non
def tgG (l : List Nat) (p : Nat) (j : Nat) (st : Int) : Option Int := if atL l (p + st) = some 46 then some (p + st) else if atL l (p + st) = some j ∧ atL l (p + 2 * st) = some 46 then some (p + 2 * st) else none
theorem tgt_G (s : Str) (l : List Nat) (p : Nat) : tgt s l p = tgG l p (jumF s) (stpF s) := rfl
theorem k_eqSg {H : Hp} {Q : VK} {o : Option Nat} {d : Nat} (q : Q (.bl (decide (o = some d))) H) : rEq (sgV o) (.str (tx [d])) H Q := by
  cases o with
  | none => exact k_eqNX q
  | some c =>
    refine k_eqX ?_
    have e : decide ([c] = [d]) = decide (some c = some d) := decide_eq_decide.mpr ⟨fun h => by injection h with h; rw [h], fun h => by injection h with h; rw [h]⟩
    rw [e]; exact q
theorem map_sign (l : List Nat) : l.map sign = l.map fun c => V.str (tx [c]) := rfl
end Mine
namespace Mine
open PySem PySem.Spec PyProof.Rows L2
theorem k_tyX {K : PySem.W.Frag} {H : Hp} {a : Str} {P : Prop} (q : P) : tyV K "str" (.str a) H ∧ P := ⟨by first | exact Or.inr ⟨rfl, a, rfl⟩ | exact Or.inr (Or.inl ⟨rfl, a, rfl⟩) | (unfold tyV; simp), q⟩
end Mine
namespace Mine
open PySem PySem.Spec PyProof.Rows L2
open Evl (Ex)
theorem ok_str {l : List Nat} (ok : OkL l) : PyData.strOk (tx l) = true := by
  unfold PyData.strOk tx
  rw [List.all_toArray, List.all_eq_true]
  intro c m
  rcases ok.2 c m with rfl | rfl | rfl <;> rfl
/-! the rows that the law draws -/
def signsF (k : Nat) : List Nat := match k with
  | 0 => [84, 70, 46]
  | 1 => [84, 70, 46, 46]
  | 2 => [84, 70, 84, 70, 46]
  | _ => [84, 46, 70]
theorem signsF_ok (k : Nat) : 3 ≤ (signsF k).length ∧ (signsF k).length ≤ 5 ∧ ∀ c ∈ signsF k, c = 84 ∨ c = 70 ∨ c = 46 := by
  match k with
  | 0 => exact ⟨by decide, by decide, by decide⟩
  | 1 => exact ⟨by decide, by decide, by decide⟩
  | 2 => exact ⟨by decide, by decide, by decide⟩
  | k + 3 => exact ⟨by show 3 ≤ 3; decide, by show 3 ≤ 5; decide, by show ∀ c ∈ [84, 46, 70], c = 84 ∨ c = 70 ∨ c = 46; decide⟩
def lineD (ds : List Int) : List Nat := (List.range (ds.getD (0 : Int).toNat 0 % 13).toNat).map fun (k : Nat) => (signsF (ds.getD (13 : Int).toNat 0 % 4).toNat).getD (ds.getD (1 + (k : Int)).toNat 0 % ((signsF (ds.getD (13 : Int).toNat 0 % 4).toNat).length : Int)).toNat 0
def lineF (c : Int) : List Nat := lineD (dgF c 14)
theorem lineD_ok (ds : List Int) : OkL (lineD ds) := by
  refine ⟨by unfold lineD; rw [List.length_map, List.length_range]; omega, fun c m => ?_⟩
  unfold lineD at m
  obtain ⟨k, _, rfl⟩ := List.mem_map.mp m
  obtain ⟨s1, s2, s3⟩ := signsF_ok (ds.getD (13 : Int).toNat 0 % 4).toNat
  generalize signsF (ds.getD (13 : Int).toNat 0 % 4).toNat = sg at *
  have h1 := Int.emod_nonneg (ds.getD (1 + (k : Int)).toNat 0) (b := (sg.length : Int)) (by omega)
  have h2 := Int.emod_lt_of_pos (ds.getD (1 + (k : Int)).toNat 0) (b := (sg.length : Int)) (by omega)
  have lt : (ds.getD (1 + (k : Int)).toNat 0 % (sg.length : Int)).toNat < sg.length := by omega
  rw [List.getD_eq_getElem?_getD, List.getElem?_eq_getElem lt]
  exact s3 _ (List.getElem_mem lt)
theorem lineF_ok (c : Int) : OkL (lineF c) := lineD_ok _
/-! the law's way to the moves -/
def pd (l : List Nat) : List Nat := [35, 35] ++ l ++ [35, 35]
theorem pd_at {l : List Nat} {j : Int} (h1 : -2 ≤ j) (h2 : j ≤ l.length + 1) : atI (pd l) (2 + j) = some ((atL l j).getD 35) := by
  obtain ⟨n, hn⟩ : ∃ n : Nat, 2 + j = (n : Int) := ⟨(2 + j).toNat, by omega⟩
  rw [hn]
  refine atI_nat ?_
  unfold pd atL
  rcases (show n < 2 ∨ (2 ≤ n ∧ n < l.length + 2) ∨ l.length + 2 ≤ n by omega) with h | ⟨h, h'⟩ | h
  · rw [if_neg (by omega), List.append_assoc, List.getElem?_append_left (by show n < 2; exact h)]
    match n with
    | 0 => rfl
    | 1 => rfl
  · rw [if_pos (by omega), List.append_assoc, List.getElem?_append_right (by show 2 ≤ n; exact h), List.getElem?_append_left (by show n - 2 < _; omega)]
    have e : j.toNat = n - 2 := by omega
    show l[n - 2]? = _
    rw [e, List.getElem?_eq_getElem (by omega)]; rfl
  · have e1 : l[j.toNat]? = none := List.getElem?_eq_none (by omega)
    have e2 : ([35, 35] ++ l).length = 2 + l.length := by rw [List.length_append]; rfl
    rw [if_pos (by omega), e1, List.getElem?_append_right (by omega), e2]
    show [35, 35][n - (2 + l.length)]? = some 35
    have e : n - (2 + l.length) = 0 ∨ n - (2 + l.length) = 1 := by omega
    rcases e with e | e <;> rw [e] <;> rfl
theorem getD_46 {o : Option Nat} : [o.getD 35] = [46] ↔ o = some 46 := by
  cases o with
  | none => simp
  | some c => simp
def gl (s : Str) (l : List Nat) (i : Nat) : Option Int := if l[i]? = some (ownF s) then tgt s l i else none
theorem mvAt_gl (s : Str) (l : List Nat) (i : Nat) : mvAtF s l i = (gl s l i).toList.map (mvL s l i) := by
  unfold mvAtF gl
  split
  · rfl
  · rfl
def glV (s : Str) (l : List Nat) (i : Nat) : Int := match gl s l i with
  | some q => q + 2
  | none => -1
theorem k_ifC {p : Prop} [Decidable p] {a b : V} {σ : L2.St} {H : Hp} {Q : VK} (q : Q (if p then a else b) H) : if decide p = true then tC a σ H Q else tC b σ H Q := by
  by_cases h : p
  · rw [if_pos h] at q; rw [if_pos (decide_eq_true h)]; exact q
  · rw [if_neg h] at q; rw [if_neg (by simpa using h)]; exact q
theorem k_ifU {p : Prop} [Decidable p] {σ : L2.St} {H : Hp} {Q : VK} (q : Q (.int (if p then 1 else -1)) H) : if decide p = true then tC (.int 1) σ H Q else tUn rNegI (tC (.int 1)) σ H Q := by
  by_cases h : p
  · rw [if_pos h] at q; rw [if_pos (decide_eq_true h)]; exact q
  · rw [if_neg h] at q; rw [if_neg (by simpa using h)]
    exact k_un (k_c (k_U q))
end Mine
namespace Mine
open PySem PySem.Spec PyProof.Rows L2
open Evl (Ex)
/-! floors: a free cell is 46, a covered one 35 -/
structure FFloor (K : PySem.W.Frag) : Prop where
  cl : Cls K (He.ga K "Floor")
  na : NoAttr K (He.ga K "Floor") "_rows"
structure FSHAPES (K : PySem.W.Frag) : Prop where
  l : PySem.W.nsIn K (He.ga K "SHAPES") "left" = some (some (.ref (kdA K "SHAPES" "left"))) ∧ ∀ H, SqT K H (kdA K "SHAPES" "left") [.int 1, .int 0]
  r : PySem.W.nsIn K (He.ga K "SHAPES") "right" = some (some (.ref (kdA K "SHAPES" "right"))) ∧ ∀ H, SqT K H (kdA K "SHAPES" "right") [.int 0, .int 1]
def gfl (t : Addr) : List (Str × V) := putF "_rows" (.ref t) []
theorem gfl_get (t : Addr) : (gfl t).lookup ("_rows" : Str) = some (.ref t) := by
  unfold gfl
  rw [lookup_putF, if_pos rfl]
theorem gfl_no (t : Addr) {m : Str} (h : ¬ m = "_rows") : (gfl t).lookup m = none := by
  unfold gfl
  rw [lookup_putF, if_neg h]
  rfl
abbrev Fl := List (List Nat)
def rowsV (rs : Fl) : List V := rs.map fun r => V.str (tx r)
theorem rowsV_len (rs : Fl) : (rowsV rs).length = rs.length := List.length_map _
theorem rowsV_at {rs : Fl} {i : Nat} {r : List Nat} (h : rs[i]? = some r) : (rowsV rs)[i]? = some (.str (tx r)) := by
  unfold rowsV; rw [List.getElem?_map, h]; rfl
def OkR (w : Nat) (r : List Nat) : Prop := r.length = w ∧ ∀ c ∈ r, c = 46 ∨ c = 35
structure OkF (rs : Fl) (w : Nat) : Prop where
  n1 : 1 ≤ rs.length
  n6 : rs.length ≤ 6
  w1 : 1 ≤ w
  w6 : w ≤ 6
  ok : ∀ r ∈ rs, OkR w r
theorem OkF.at {rs : Fl} {w : Nat} (h : OkF rs w) {i : Nat} (hi : i < rs.length) : ∃ r, rs[i]? = some r ∧ OkR w r :=
  ⟨rs[i], List.getElem?_eq_getElem hi, h.ok _ (List.getElem_mem hi)⟩
/-- a board -/
def FlAt (K : PySem.W.Frag) (H : Hp) (b : Addr) (rs : Fl) : Prop := ∃ dx t, H b = some (.ins (He.ga K "Floor") dx (gfl t)) ∧ H t = some (.tup (rowsV rs))
theorem FlAt.keep {K : PySem.W.Frag} {H H' : Hp} {b : Addr} {l : Fl} (h : FlAt K H b l) (k : ∀ c o, H c = some o → (∀ ys, o ≠ .lst ys) → H' c = some o) : FlAt K H' b l :=
  let ⟨dx, t, h1, h2⟩ := h; ⟨dx, t, k _ _ h1 (fun ys z => by cases z), k _ _ h2 (fun ys z => by cases z)⟩
theorem FlAt.ex {K : PySem.W.Frag} {H H' : Hp} {b : Addr} {l : Fl} (h : FlAt K H b l) (e : Ex H H') : FlAt K H' b l := h.keep fun c o z _ => e c o z
def FlV (K : PySem.W.Frag) (H : Hp) (y : V) (l : Fl) : Prop := ∃ b, y = .ref b ∧ FlAt K H b l
theorem FlV.keep {K : PySem.W.Frag} {H H' : Hp} {y : V} {l : Fl} (h : FlV K H y l) (k : ∀ c o, H c = some o → (∀ ys, o ≠ .lst ys) → H' c = some o) : FlV K H' y l := let ⟨b, r, z⟩ := h; ⟨b, r, z.keep k⟩
theorem FlV.ex {K : PySem.W.Frag} {H H' : Hp} {y : V} {l : Fl} (h : FlV K H y l) (e : Ex H H') : FlV K H' y l := h.keep fun c o z _ => e c o z
def DuL (H : Hp) (y : V) (l : Fl) : Prop := ∃ d t, y = .ref d ∧ H d = some (.tup [.str "floor", .ref t]) ∧ H t = some (.tup (rowsV l))
theorem DuL.keep {H H' : Hp} {y : V} {l : Fl} (h : DuL H y l) (k : ∀ c o, H c = some o → (∀ ys, o ≠ .lst ys) → H' c = some o) : DuL H' y l := let ⟨d, t, r, z, u⟩ := h; ⟨d, t, r, k _ _ z (fun ys z => by cases z), k _ _ u (fun ys z => by cases z)⟩
theorem DuL.ex {H H' : Hp} {y : V} {l : Fl} (h : DuL H y l) (e : Ex H H') : DuL H' y l := h.keep fun c o z _ => e c o z
abbrev BsL (K : PySem.W.Frag) (H : Hp) (ys : List V) (ls : List Fl) : Prop := AllAt (FlV K) H ys ls
abbrev DsL (H : Hp) (ys : List V) (ls : List Fl) : Prop := AllAt DuL H ys ls
/-! cells and moves -/
def cell (rs : Fl) (i j : Nat) : Option Nat := rs[i]?.bind fun r => r[j]?
def fre (rs : Fl) (i j : Nat) : Bool := decide (cell rs i j = some 46)
def cov (rs : Fl) (i j : Nat) : Fl := rs.set i ((rs.getD i []).set j 35)
def dnF (s : Str) : Nat := if s = "left" then 1 else 0
def rtF (s : Str) : Nat := if s = "left" then 0 else 1
def mvAtL (s : Str) (rs : Fl) (i j : Nat) : List Fl := if fre rs i j = true ∧ fre rs (i + dnF s) (j + rtF s) = true then [cov (cov rs i j) (i + dnF s) (j + rtF s)] else []
def mvsL (s : Str) (w : Nat) (rs : Fl) : List Fl := (List.range rs.length).flatMap fun i => (List.range w).flatMap fun j => mvAtL s rs i j
theorem fre_in {rs : Fl} {i j w : Nat} (ok : OkF rs w) (h : fre rs i j = true) : i < rs.length ∧ j < w := by
  have h := of_decide_eq_true h
  unfold cell at h
  cases e : rs[i]? with
  | none => rw [e] at h; cases h
  | some r =>
    rw [e] at h
    have hi := (List.getElem?_eq_some_iff.mp e).1
    have hj : r[j]? = some 46 := h
    have := (List.getElem?_eq_some_iff.mp hj).1
    have ol := (ok.ok r (List.mem_of_getElem? e)).1
    exact ⟨hi, by omega⟩
theorem cov_ok {rs : Fl} {w i j : Nat} (ok : OkF rs w) (hi : i < rs.length) : OkF (cov rs i j) w := by
  have hl : (cov rs i j).length = rs.length := List.length_set
  refine ⟨by rw [hl]; exact ok.n1, by rw [hl]; exact ok.n6, ok.w1, ok.w6, fun r m => ?_⟩
  rcases List.mem_or_eq_of_mem_set m with m | rfl
  · exact ok.ok r m
  · have e : rs.getD i [] = rs[i] := by rw [List.getD_eq_getElem?_getD, List.getElem?_eq_getElem hi]; rfl
    rw [e]
    have o := ok.ok _ (List.getElem_mem hi)
    refine ⟨by rw [List.length_set]; exact o.1, fun c m => ?_⟩
    rcases List.mem_or_eq_of_mem_set m with m | rfl
    · exact o.2 c m
    · exact Or.inr rfl
theorem mvAt_ok {s : Str} {rs : Fl} {w i j : Nat} (ok : OkF rs w) : ∀ r ∈ mvAtL s rs i j, OkF r w ∧ r.length = rs.length := by
  intro r m
  unfold mvAtL at m
  split at m
  · rename_i h
    rw [List.mem_singleton] at m
    subst m
    have h1 := fre_in ok h.1
    have h2 := fre_in ok h.2
    refine ⟨cov_ok (cov_ok ok h1.1) (by unfold cov; rw [List.length_set]; exact h2.1), by unfold cov; rw [List.length_set, List.length_set]⟩
  · cases m
theorem mvsL_ok {s : Str} {rs : Fl} {w : Nat} (ok : OkF rs w) : ∀ r ∈ mvsL s w rs, OkF r w := by
  intro r m
  unfold mvsL at m
  obtain ⟨i, _, m⟩ := List.mem_flatMap.mp m
  obtain ⟨j, _, m⟩ := List.mem_flatMap.mp m
  exact (mvAt_ok ok r m).1
theorem mvAtL_len (s : Str) (rs : Fl) (i j : Nat) : (mvAtL s rs i j).length ≤ 1 := by
  unfold mvAtL
  split <;> simp
theorem flat_len {α : Type} (f : Nat → List α) (b : Nat) (h : ∀ i, (f i).length ≤ b) (n : Nat) : ((List.range n).flatMap f).length ≤ n * b := by
  induction n with
  | zero => simp
  | succ n ih =>
    rw [List.range_succ, List.flatMap_append, List.length_append, List.flatMap_cons, List.flatMap_nil, List.append_nil, Nat.add_mul, Nat.one_mul]
    have := h n
    omega
/-! texts: a row's kind -/
def okd (c : Nat) : Bool := decide (c = 46) || decide (c = 35)
theorem okd_iff (c : Nat) : okd c = true ↔ (c = 46 ∨ c = 35) := by
  unfold okd
  rw [Bool.or_eq_true, decide_eq_true_iff, decide_eq_true_iff]
section
variable {H : Hp} {K : PySem.W.Frag} {Q : VK}
theorem k_inDots {t : Addr} (h : SqT K H t [.str ".", .str "#"]) {c : Nat} (q : Q (.bl (okd c)) H) : rIn K false (.str (tx [c])) (.ref t) H Q := by
  refine ⟨_, _, rfl, Or.inr h, rfl, rfl, ?_⟩
  have e : inV (V.str (tx [c])) [.str ".", .str "#"] = okd c := by
    have key : ∀ d : Nat, eqV (V.str (tx [d])) (V.str (tx [c])) = decide (c = d) := by
      intro d
      show decide (tx [d] = tx [c]) = _
      refine decide_eq_decide.mpr ⟨fun h => ?_, fun h => by rw [h]⟩
      have := tx_inj.mp h
      injection this with h1
      exact h1.symm
    show (eqV (V.str (tx [46])) (V.str (tx [c])) || (eqV (V.str (tx [35])) (V.str (tx [c])) || false)) = _
    rw [key, key, Bool.or_false]
    rfl
  rw [e]
  exact q
end
section
variable {te : TE} {σ : L2.St} {H1 : Hp}
/-- a turn that may make objects -/
theorem turn_mapE {i : Nat} {x y : V} (h : ∀ H', Ex H1 H' → ∀ R : VK, (∀ H'', Ex H' H'' → R y H'') → te ((wipe σ [i]).set i (some x)) H' R) (w : wipe ((wipe σ [i]).set i (some x)) [i] = wipe σ [i] := by rfl) : turnR (gName i) tYes te [i] σ x (some y) H1 :=
  fun H' e R r => ⟨w, h H' e (fun y H4 => R (some y) H4) r⟩
end
/-- what is known of a thing in a list of rows -/
def Kn (K : PySem.W.Frag) (H : Hp) (v : V) : Prop := (∃ T, TyB K H v T ∧ T ≠ "str") ∨ ∃ r, v = .str (tx r) ∧ r.length ≤ 100
theorem Kn.ex {K : PySem.W.Frag} {H H' : Hp} {v : V} (h : Kn K H v) (e : Ex H H') : Kn K H' v := by
  rcases h with ⟨T, t, n⟩ | h
  · exact Or.inl ⟨T, TyB.ex t e, n⟩
  · exact Or.inr h
theorem ty_str {K : PySem.W.Frag} {H : Hp} {r : Str} {T : String} (h : TyB K H (.str r) T) : T = "str" := by cases h; rfl
/-- no list of rows -/
def NoF (xs : List V) : Prop := ∀ rs w, OkF rs w → xs ≠ rowsV rs
/-- a row as it must be, of the first row's length -/
def Row0 (n : Nat) (v : V) : Prop := ∃ r, v = .str (tx r) ∧ r.length = n ∧ 1 ≤ r.length ∧ r.length ≤ 6 ∧ r.all okd = true
def len0 : List V → Nat
  | .str s :: _ => s.length
  | _ => 0
theorem rows_of {xs : List V} (h1 : 1 ≤ xs.length) (h6 : xs.length ≤ 6) (h : ∀ v ∈ xs, Row0 (len0 xs) v) : ∃ rs w, OkF rs w ∧ xs = rowsV rs := by
  have ex : ∀ ys : List V, (∀ v ∈ ys, Row0 (len0 xs) v) → ∃ rs : Fl, ys = rowsV rs ∧ ∀ r ∈ rs, OkR (len0 xs) r := by
    intro ys
    induction ys with
    | nil => exact fun _ => ⟨[], rfl, fun _ m => by cases m⟩
    | cons y ys ih =>
      intro h
      obtain ⟨rs, e, o⟩ := ih fun v m => h v (List.mem_cons_of_mem _ m)
      obtain ⟨r, e2, l, _, _, a⟩ := h y (List.mem_cons_self)
      refine ⟨r :: rs, by rw [e, e2]; rfl, fun q m => ?_⟩
      rcases List.mem_cons.mp m with rfl | m
      · exact ⟨l, fun c mc => (okd_iff c).mp (List.all_eq_true.mp a c mc)⟩
      · exact o q m
  obtain ⟨rs, e, o⟩ := ex xs h
  have hl : rs.length = xs.length := by rw [e, rowsV_len]
  refine ⟨rs, len0 xs, ⟨by omega, by omega, ?_, ?_, o⟩, e⟩
  · obtain ⟨r, _, l, a, b, _⟩ := h xs[0] (List.getElem_mem (by omega)); omega
  · obtain ⟨r, _, l, a, b, _⟩ := h xs[0] (List.getElem_mem (by omega)); omega
theorem row_of {xs : List V} {rs : Fl} {w : Nat} (ok : OkF rs w) (e : xs = rowsV rs) : 1 ≤ xs.length ∧ xs.length ≤ 6 ∧ ∀ v ∈ xs, Row0 (len0 xs) v := by
  subst e
  refine ⟨by rw [rowsV_len]; exact ok.n1, by rw [rowsV_len]; exact ok.n6, fun v m => ?_⟩
  obtain ⟨r, mr, rfl⟩ := List.mem_map.mp m
  have o := ok.ok r mr
  have e0 : len0 (rowsV rs) = w := by
    cases rs with
    | nil => cases mr
    | cons q qs =>
      show (tx q).length = w
      rw [tx_len]; exact (ok.ok q (List.mem_cons_self)).1
  rw [e0]
  exact ⟨r, rfl, o.1, by rw [o.1]; exact ok.w1, by rw [o.1]; exact ok.w6, List.all_eq_true.mpr fun c m => (okd_iff c).mpr (o.2 c m)⟩
/-! the rows that the law draws -/
def widD (ds : List Int) : Nat := (1 + ds.getD 1 0 % 6).toNat
def rowD (ds : List Int) (line : Nat) : List Nat := (List.range (widD ds)).map fun k => if ds.getD (3 + 6 * line + k) 0 % (2 + ds.getD 2 0 % 4) = 1 then 35 else 46
def rowsD (ds : List Int) : Fl := (List.range (1 + ds.getD 0 0 % 6).toNat).map (rowD ds)
def rowsF (c : Int) : Fl := rowsD (dgF c 39)
def widF (c : Int) : Nat := widD (dgF c 39)
theorem rowsF_ok (c : Int) : OkF (rowsF c) (widF c) := by
  unfold rowsF widF rowsD
  generalize dgF c 39 = ds
  have w : widD ds = (1 + ds.getD 1 0 % 6).toNat := rfl
  refine ⟨by rw [List.length_map, List.length_range]; omega, by rw [List.length_map, List.length_range]; omega, by omega, by omega, fun r m => ?_⟩
  obtain ⟨l, _, rfl⟩ := List.mem_map.mp m
  refine ⟨by unfold rowD; rw [List.length_map, List.length_range], fun c m => ?_⟩
  obtain ⟨k, _, rfl⟩ := List.mem_map.mp m
  split
  · exact Or.inr rfl
  · exact Or.inl rfl
end Mine
namespace Mine
open PySem PySem.Spec PyProof.Rows L2
open Evl (Ex)
/-! what makes no floor -/
/-- never a row -/
def Never (v : V) : Prop := ∀ r, v = .str (tx r) → 1 ≤ r.length → r.length ≤ 6 → (∀ c ∈ r, c = 46 ∨ c = 35) → False
theorem put_at {xs : List V} {i : Nat} (h : i < xs.length) (v : V) : xs.take i ++ [v] ++ xs.drop (i + 1) = xs.set i v := by
  rw [List.set_eq_take_append_cons_drop, if_pos h, List.append_assoc]; rfl
theorem noF_put {rs : Fl} {w pl : Nat} {v : V} (ok : OkF rs w) (hp : pl < rs.length)
    (h : ∀ r, v = .str (tx r) → 1 ≤ r.length → r.length ≤ 6 → (∀ c ∈ r, c = 46 ∨ c = 35) → (1 < rs.length → r.length = w) → False) : NoF ((rowsV rs).set pl v) := by
  intro rs2 w2 ok2 e
  have hl := rowsV_len rs
  have e1 : (rowsV rs2)[pl]? = some v := by rw [← e]; exact List.getElem?_set_self (by omega)
  obtain ⟨r2, h2, e2⟩ : ∃ r2, rs2[pl]? = some r2 ∧ v = .str (tx r2) := by
    unfold rowsV at e1
    rw [List.getElem?_map] at e1
    obtain ⟨r2, a, b⟩ := Option.map_eq_some_iff.mp e1
    exact ⟨r2, a, b.symm⟩
  have o2 := ok2.ok r2 (List.mem_of_getElem? h2)
  have w1 := ok2.w1
  have w6 := ok2.w6
  refine h r2 e2 (by rw [o2.1]; exact w1) (by rw [o2.1]; exact w6) o2.2 fun n1 => ?_
  have key : ∀ k, k < rs.length → k ≠ pl → r2.length = w := by
    intro k hk ne
    obtain ⟨r, hr, o⟩ := ok.at hk
    have ek : (rowsV rs2)[k]? = some (.str (tx r)) := by
      rw [← e, List.getElem?_set_ne (fun h => ne h.symm)]
      exact rowsV_at hr
    unfold rowsV at ek
    rw [List.getElem?_map] at ek
    obtain ⟨r3, a, b⟩ := Option.map_eq_some_iff.mp ek
    injection b with b
    have b := tx_inj.mp b
    subst b
    have o3 := ok2.ok r3 (List.mem_of_getElem? a)
    rw [o2.1, ← o3.1]
    exact o.1
  by_cases z : pl = 0
  · exact key 1 (by omega) (by omega)
  · exact key 0 (by omega) (fun h => z h.symm)
theorem kn_rows {K : PySem.W.Frag} {H : Hp} {rs : Fl} {w : Nat} (ok : OkF rs w) : ∀ v ∈ rowsV rs, Kn K H v := by
  intro v m
  obtain ⟨r, mr, rfl⟩ := List.mem_map.mp m
  have o := (ok.ok r mr).1
  have := ok.w6
  exact Or.inr ⟨r, rfl, by omega⟩
theorem kn_put {K : PySem.W.Frag} {H : Hp} {rs : Fl} {w pl : Nat} {v : V} (ok : OkF rs w) (kv : Kn K H v) : ∀ x ∈ (rowsV rs).set pl v, Kn K H x := by
  intro x m
  rcases List.mem_or_eq_of_mem_set m with m | rfl
  · exact kn_rows ok x m
  · exact kv
theorem small_ok {l : List Nat} (h : ∀ c ∈ l, c < 128) : PyData.strOk (tx l) = true := by
  unfold PyData.strOk tx
  rw [List.all_toArray, List.all_eq_true]
  intro c m
  have k : ∀ c : Nat, c < 128 → (decide (c < 1114112) && !(decide (55296 ≤ c) && decide (c ≤ 57343))) = true ∨ True := fun _ _ => Or.inr trivial
  have := h c m
  simp
  omega
theorem shaped_str {l : List Nat} (h : ∀ c ∈ l, c < 128) : SeqAt.shaped (.str (tx l)) = true := by
  have hd : (PyData.str (tx l)).depth ≤ 64 := by simp only [PyData.depth]; decide
  have hl : (PyData.str (tx l)).canLay0 = true := by simp only [PyData.canLay0]; exact small_ok h
  unfold SeqAt.shaped
  rw [hl, decide_eq_true hd]
  rfl
/-- a thing that can be compared with a text -/
def Cmp (K : PySem.W.Frag) (H : Hp) (v : V) : Prop := ∃ d, Dp K H v d ∧ SeqAt.shaped d = true
theorem k_neS {K : PySem.W.Frag} {H : Hp} {Q : VK} {v : V} {y : List Nat} (h : Cmp K H v) (hy : ∀ c ∈ y, c < 128) (q : ∀ b : Bool, (b = true → v ≠ .str (tx y)) → Q (.bl b) H) : rNeD K v (.str (tx y)) H Q := by
  obtain ⟨d, hd, sd⟩ := h
  refine ⟨d, .str (tx y), hd, .str _, sd, shaped_str hy, q _ fun hb e => ?_⟩
  subst e
  cases hd
  simp only [PyData.eqv] at hb
  simp at hb
theorem k_orP {P A B : Prop} {b : Bool} (ha : P → A) (h1 : b = true → P) (h2 : (P → A) → B) : if b = true then A else B := by
  cases b
  · exact h2 ha
  · exact ha (h1 rfl)
end Mine
namespace Mine
open PySem PySem.Spec PyProof.Rows L2
/-! name = {k: v for ..}, a statement of its own -/
section
variable {X : Cx}
theorem ps_setDc {i : Nat} {y : Str} {py : Pos} {kx vx tg iter : Expr} {ifs : List Expr} {scope : Scope} {own : List (Str × Nat)} {pos spos : Pos} {wi : TI} {g : TG} {tt : TT} {tk tv : TE} (hc : X.calm = true) (hN : X.N.Nodup) (hy : X.N[i]? = some y) (hyl : X.env.scope.names.lookup y = some .local)
    (hsw : swapsWith (.DictComp kx vx [⟨tg, iter, ifs, 0⟩] scope pos) (some (.Name y py)) spos.line X.env = pure true) (hi : PI X tg iter wi) (ok : BlkOk X.N X.env.scope scope own)
    (hg : ∀ (s : Shared) (H : Hp) (C : Addr) (cl : List (Str × Addr)) (fp : List Addr), PG (X.blk s H scope (compEnvC scope cl C X.env) fp) tg g) (ht : ∀ (s : Shared) (H : Hp) (C : Addr) (cl : List (Str × Addr)) (fp : List Addr), PTs (X.blk s H scope (compEnvC scope cl C X.env) fp) ifs tt)
    (hk : ∀ (s : Shared) (H : Hp) (C : Addr) (cl : List (Str × Addr)) (fp : List Addr), PE (X.blk s H scope (compEnvC scope cl C X.env) fp) kx tk)
    (hv : ∀ (s : Shared) (H : Hp) (C : Addr) (cl : List (Str × Addr)) (fp : List Addr), PE (X.blk s H scope (compEnvC scope cl C X.env) fp) vx tv) (hs : ∀ x, foldedSetIterable iter X.env x = pure x := by intro _; rfl) :
    PS X (.Assign [.Name y py] (.DictComp kx vx [⟨tg, iter, ifs, 0⟩] scope pos) spos) (tAsg (tDc wi g tt tk tv (own.map (·.2))) (gName i)) := by
  refine ⟨fun pins s σ H D I h => ?_⟩
  rw [exec_Assign_Name_used _ _ _ _ hsw]
  refine wpAny_bind (wpAny_standAt (wpAny_bind ?_))
  show wpAny _ X.A (do let _ ← comprehension (.DictComp kx vx [⟨tg, iter, ifs, 0⟩] scope pos) scope X.env (firstIterPos [⟨tg, iter, ifs, 0⟩] pos) newDict false (eval iter X.env) (some (assign (.Name y py) X.env))) _ _ s
  have h : tDc wi g tt tk tv (own.map (·.2)) σ H (fun x H1 => gName i x σ H1 D.nx) := h
  refine wpAny_bind (thn (dc_core (Qf := fun _ s' => SP X pins D .next s') hc hN I hi ok hg ht hk hv hs h fun L C s' m H' I' q hn f => ?_) fun _ s' hq => wpAny_pure (wpAny_pure hq))
  show wpAny _ _ (assign (.Name y py) X.env (.ref L)) _ _ _
  refine wpAny_assign_Name (store_ok2 (v := V.ref L) I' hN hy (.inl hyl) rfl (fun s2 I2 ⟨a, sb, ha⟩ => ?_) (.inr hyl))
  obtain ⟨f0, f1, f2, f3, f4, f5⟩ := f
  have far : C ≠ a := by
    rcases ha with z | z
    · rw [z]; exact f1
    · exact fun e => f4 y a z e.symm
  refine ⟨m, hn.sameBut sb far, fun h3 sb3 => ?_⟩
  exact ⟨_, H', I2.turned (t' := s2.toks) (fun b o hb e => (sb3.2 b hb).trans e) f0 f1 f3 f4 f5, q⟩
theorem swD_true {kx vx : Expr} {gs : List Comprehension} {scope : Scope} {pos py : Pos} {y : Str} {l : Nat} {env : Env} (hk : env.scope.kind = .function) (hy : env.scope.names.lookup y = some .local) (hl : (py.line == pos.line) = true)
    (ha : (scope.names.any fun (n, k) => n == y && (k == .local || k == .cell)) = false) : swapsWith (.DictComp kx vx gs scope pos) (some (.Name y py)) l env = pure true := by
  have ky : env.kindOf y = some .local := hy
  have hb : env.blockKind = .function := by unfold Env.blockKind; rw [hk]; rfl
  unfold swapsWith
  simp only [hb, ky, ha, Expr.pos, hl]
  rfl
end
end Mine
namespace Mine
open PySem PySem.Spec PyProof.Rows L2
open Evl (Ex)
/-! hedges: an edge is two knots and a colour -/
structure FHedge (K : PySem.W.Frag) : Prop where
  cl : Cls K (He.ga K "Hedge")
  na : NoAttr K (He.ga K "Hedge") "_edges"
structure FCOLOURS (K : PySem.W.Frag) : Prop where
  tu : ∀ H, SqT K H (He.ga K "COLOURS") [.str "blue", .str "green", .str "red"]
abbrev Edge := Nat × Nat × Str
def OkC3 (s : Str) : Prop := s = "blue" ∨ s = "green" ∨ s = "red"
def OkE (e : Edge) : Prop := e.1 ≤ 15 ∧ e.2.1 ≤ 15 ∧ OkC3 e.2.2
def EdAt (H : Hp) (y : V) (e : Edge) : Prop := ∃ a, y = .ref a ∧ H a = some (.tup [.int (e.1 : Int), .int (e.2.1 : Int), .str e.2.2])
theorem EdAt.keep {H H' : Hp} {y : V} {e : Edge} (h : EdAt H y e) (k : ∀ c o, H c = some o → (∀ ys, o ≠ .lst ys) → H' c = some o) : EdAt H' y e := let ⟨a, r, z⟩ := h; ⟨a, r, k _ _ z (fun ys z => by cases z)⟩
theorem EdAt.ex {H H' : Hp} {y : V} {e : Edge} (h : EdAt H y e) (x : Ex H H') : EdAt H' y e := h.keep fun c o z _ => x c o z
abbrev EsAt (H : Hp) (ys : List V) (es : List Edge) : Prop := AllAt EdAt H ys es
def ghe (t : Addr) : List (Str × V) := putF "_edges" (.ref t) []
theorem ghe_get (t : Addr) : (ghe t).lookup ("_edges" : Str) = some (.ref t) := by
  unfold ghe
  rw [lookup_putF, if_pos rfl]
theorem ghe_no (t : Addr) {m : Str} (h : ¬ m = "_edges") : (ghe t).lookup m = none := by
  unfold ghe
  rw [lookup_putF, if_neg h]
  rfl
/-- a board -/
def HgAt (K : PySem.W.Frag) (H : Hp) (b : Addr) (es : List Edge) : Prop := ∃ dx t xs, H b = some (.ins (He.ga K "Hedge") dx (ghe t)) ∧ H t = some (.tup xs) ∧ EsAt H xs es
theorem HgAt.ex {K : PySem.W.Frag} {H H' : Hp} {b : Addr} {es : List Edge} (h : HgAt K H b es) (x : Ex H H') : HgAt K H' b es :=
  let ⟨dx, t, xs, h1, h2, h3⟩ := h; ⟨dx, t, xs, x _ _ h1, x _ _ h2, h3.imp fun y c q => q.ex x⟩
def DuH (H : Hp) (y : V) (es : List Edge) : Prop := ∃ d t xs, y = .ref d ∧ H d = some (.tup [.str "hedge", .ref t]) ∧ H t = some (.tup xs) ∧ EsAt H xs es
theorem DuH.ex {H H' : Hp} {y : V} {es : List Edge} (h : DuH H y es) (x : Ex H H') : DuH H' y es :=
  let ⟨d, t, xs, r, h1, h2, h3⟩ := h; ⟨d, t, xs, r, x _ _ h1, x _ _ h2, h3.imp fun y c q => q.ex x⟩
/-! the knots that hang from the ground -/
inductive Hangs (es : List Edge) : Nat → Prop
  | ground : Hangs es 0
  | up {e : Edge} : e ∈ es → Hangs es e.1 → Hangs es e.2.1
  | down {e : Edge} : e ∈ es → Hangs es e.2.1 → Hangs es e.1
theorem hangs_small {es : List Edge} (ok : ∀ e ∈ es, OkE e) : ∀ {k : Nat}, Hangs es k → k ≤ 15 := by
  intro k h
  induction h with
  | ground => exact Nat.zero_le _
  | up m _ _ => exact (ok _ m).2.1
  | down m _ _ => exact (ok _ m).1
/-- what is closed and holds the ground holds all that hangs -/
theorem closed_all {es : List Edge} {S : Nat → Prop} (h0 : S 0) (hc : ∀ e ∈ es, S e.1 ↔ S e.2.1) : ∀ {k : Nat}, Hangs es k → S k := by
  intro k h
  induction h with
  | ground => exact h0
  | up m _ ih => exact (hc _ m).mp ih
  | down m _ ih => exact (hc _ m).mpr ih
theorem closed_eq {es : List Edge} {S : Nat → Prop} (h0 : S 0) (hs : ∀ k, S k → Hangs es k) (hc : ∀ e ∈ es, S e.1 ↔ S e.2.1) (k : Nat) : S k ↔ Hangs es k := ⟨hs k, closed_all h0 hc⟩
open Classical in
/-- the edges that hang -/
noncomputable def keptE (es : List Edge) : List Edge := es.filter fun e => decide (Hangs es e.1)
open Classical in
theorem kept_by {es : List Edge} {f : Nat → Bool} (h : ∀ k, f k = true ↔ Hangs es k) : es.filter (fun e => f e.1) = keptE es := by
  unfold keptE
  refine List.filter_congr fun e _ => ?_
  cases hb : f e.1
  · exact (decide_eq_false fun q => by rw [(h _).mpr q] at hb; cases hb).symm
  · exact (decide_eq_true ((h _).mp hb)).symm
theorem nodup_len : ∀ (l m : List Nat), l.Nodup → (∀ x ∈ l, x ∈ m) → l.length ≤ m.length
  | [], _, _, _ => Nat.zero_le _
  | a :: l, m, nd, h => by
    obtain ⟨na, nl⟩ := List.nodup_cons.mp nd
    have ha := h a (List.mem_cons_self)
    have q := nodup_len l (m.erase a) nl fun x mx => (List.mem_erase_of_ne (fun (e : x = a) => na (by rw [← e]; exact mx))).mpr (h x (List.mem_cons_of_mem _ mx))
    rw [List.length_erase_of_mem ha] at q
    have := List.length_pos_of_mem ha
    rw [List.length_cons]
    omega
/-- distinct knots are sixteen at most -/
theorem few_knots {l : List Nat} (nd : l.Nodup) (h : ∀ k ∈ l, k ≤ 15) : l.length ≤ 16 := by
  have := nodup_len l (List.range 16) nd fun k m => List.mem_range.mpr (by have := h k m; omega)
  simpa using this
/-! the knots that edges lead to from some knots -/
inductive From (es : List Edge) (st : List Nat) : Nat → Prop
  | base {k : Nat} : k ∈ st → From es st k
  | up {e : Edge} : e ∈ es → From es st e.1 → From es st e.2.1
  | down {e : Edge} : e ∈ es → From es st e.2.1 → From es st e.1
theorem From.ind {es : List Edge} {st : List Nat} {S : Nat → Prop} (h0 : ∀ k ∈ st, S k) (hc : ∀ e ∈ es, S e.1 ↔ S e.2.1) {k : Nat} (h : From es st k) : S k := by
  induction h with
  | base m => exact h0 _ m
  | up m _ ih => exact (hc _ m).mp ih
  | down m _ ih => exact (hc _ m).mpr ih
theorem from_eq {es : List Edge} {st : List Nat} {S : Nat → Prop} (h0 : ∀ k ∈ st, S k) (hs : ∀ k, S k → From es st k) (hc : ∀ e ∈ es, S e.1 ↔ S e.2.1) (k : Nat) : S k ↔ From es st k := ⟨hs k, From.ind h0 hc⟩
theorem from_hangs (es : List Edge) (k : Nat) : From es [0] k ↔ Hangs es k := by
  constructor
  · intro h
    induction h with
    | base m => rw [List.mem_singleton.mp m]; exact .ground
    | up m _ ih => exact .up m ih
    | down m _ ih => exact .down m ih
  · intro h
    induction h with
    | ground => exact .base List.mem_cons_self
    | up m _ ih => exact .up m ih
    | down m _ ih => exact .down m ih
end Mine
namespace Mine
open PySem PySem.Spec PyProof.Rows L2
open Evl (Ex)
/-! games and their turned games: relations that are closed under the options -/
def Img (R : Int → Int → Prop) (as bs : List Int) : Prop := (∀ x ∈ as, ∃ y ∈ bs, R x y) ∧ ∀ y ∈ bs, ∃ x ∈ as, R x y
def Bis (G : List Pr) (R : Int → Int → Prop) : Prop := ∀ i j, R i j → ∃ (a b : Nat) (g h : Pr), i = a ∧ j = b ∧ G[a]? = some g ∧ G[b]? = some h ∧ Img R g.2 h.1 ∧ Img R g.1 h.2
theorem Img.mono {R S : Int → Int → Prop} {as bs : List Int} (f : ∀ i j, R i j → S i j) (x : Img R as bs) : Img S as bs :=
  ⟨fun i m => let ⟨j, mj, r⟩ := x.1 i m; ⟨j, mj, f _ _ r⟩, fun j m => let ⟨i, mi, r⟩ := x.2 j m; ⟨i, mi, f _ _ r⟩⟩
theorem Img.conv {R : Int → Int → Prop} {as bs : List Int} (x : Img R as bs) : Img (fun i j => R j i) bs as := ⟨x.2, x.1⟩
theorem Bis.conv {G : List Pr} {R : Int → Int → Prop} (b : Bis G R) : Bis G (fun i j => R j i) := fun i j r =>
  let ⟨a, c, g, h, ea, ec, hg, hh, i1, i2⟩ := b j i r
  ⟨c, a, h, g, ec, ea, hh, hg, i2.conv, i1.conv⟩
theorem Bis.goes {G G' : List Pr} {R : Int → Int → Prop} (b : Bis G R) (go : ∀ (i : Nat) (g : Pr), G[i]? = some g → G'[i]? = some g) : Bis G' R := fun i j r =>
  let ⟨a, c, g, h, ea, ec, hg, hh, i1, i2⟩ := b i j r
  ⟨a, c, g, h, ea, ec, go _ _ hg, go _ _ hh, i1, i2⟩
/-- R and a pair more, both ways round -/
def With (R : Int → Int → Prop) (f t : Int) : Int → Int → Prop := fun i j => R i j ∨ (i = f ∧ j = t) ∨ (i = t ∧ j = f)
def Wit1 (R : Int → Int → Prop) (f t : Int) : Int → Int → Prop := fun i j => R i j ∨ (i = f ∧ j = t)
theorem Bis.more1 {G : List Pr} {R : Int → Int → Prop} {f t : Nat} {g h : Pr} (b : Bis G R) (hg : G[f]? = some g) (hh : G[t]? = some h) (i1 : Img R g.2 h.1) (i2 : Img R g.1 h.2) : Bis G (Wit1 R f t) := by
  have up : ∀ i j, R i j → Wit1 R f t i j := fun _ _ r => Or.inl r
  rintro i j (r | ⟨rfl, rfl⟩)
  · obtain ⟨a, c, g, h, ea, ec, hg, hh, i1, i2⟩ := b i j r
    exact ⟨a, c, g, h, ea, ec, hg, hh, i1.mono up, i2.mono up⟩
  · exact ⟨f, t, g, h, rfl, rfl, hg, hh, i1.mono up, i2.mono up⟩
theorem Bis.more {G : List Pr} {R : Int → Int → Prop} {f t : Nat} {g h : Pr} (b : Bis G R) (s : ∀ i j, R i j → R j i) (hg : G[f]? = some g) (hh : G[t]? = some h) (i1 : Img R g.2 h.1) (i2 : Img R g.1 h.2) : Bis G (With R f t) := by
  have up : ∀ i j, R i j → With R f t i j := fun _ _ r => Or.inl r
  have sy : ∀ i j, R j i → With R f t i j := fun i j r => Or.inl (s _ _ r)
  rintro i j (r | ⟨rfl, rfl⟩ | ⟨rfl, rfl⟩)
  · obtain ⟨a, c, g, h, ea, ec, hg, hh, i1, i2⟩ := b i j r
    exact ⟨a, c, g, h, ea, ec, hg, hh, i1.mono up, i2.mono up⟩
  · exact ⟨f, t, g, h, rfl, rfl, hg, hh, i1.mono up, i2.mono up⟩
  · exact ⟨t, f, h, g, rfl, rfl, hh, hg, i2.conv.mono sy, i1.conv.mono sy⟩
theorem With.symm {R : Int → Int → Prop} {f t : Int} (s : ∀ i j, R i j → R j i) : ∀ i j, With R f t i j → With R f t j i := by
  rintro i j (r | ⟨e1, e2⟩ | ⟨e1, e2⟩)
  · exact Or.inl (s _ _ r)
  · exact Or.inr (Or.inr ⟨e2, e1⟩)
  · exact Or.inr (Or.inl ⟨e2, e1⟩)
theorem side_one {R S : Int → Int → Prop} {as bs cs : List Int} {a : Nat} (ih : ∀ x : Nat, x < a → ∀ j j', R x j → S x j' → j = j') (la : Asc a as) (x : Img R as bs) (y : Img S as cs) (ab : bs.Pairwise (· < ·)) (ac : cs.Pairwise (· < ·)) : bs = cs := by
  have key : ∀ z ∈ as, ∀ j j', R z j → S z j' → j = j' := fun z mz j j' r s => by
    have bz := la.2 z mz
    obtain ⟨zn, rfl⟩ : ∃ n : Nat, z = n := ⟨z.toNat, by omega⟩
    exact ih zn (by omega) j j' r s
  refine asc_ext ab ac fun k => ⟨fun m => ?_, fun m => ?_⟩
  · obtain ⟨z, mz, r⟩ := x.2 k m
    obtain ⟨k', mk', s⟩ := y.1 z mz
    rw [key z mz k k' r s]; exact mk'
  · obtain ⟨z, mz, s⟩ := y.2 k m
    obtain ⟨k', mk', r⟩ := x.1 z mz
    rw [← key z mz k' k r s]; exact mk'
theorem Bis.one {G : List Pr} {R S : Int → Int → Prop} (f : Forms G) (b : Bis G R) (b' : Bis G S) : ∀ n a : Nat, a < n → ∀ j j', R a j → S a j' → j = j' := by
  intro n
  induction n with
  | zero => intro a h; exact absurd h (Nat.not_lt_zero _)
  | succ n ih =>
    intro a ha j j' r s
    obtain ⟨a1, c1, g, h, ea, rfl, hg, hh, i1, i2⟩ := b _ _ r
    obtain ⟨a2, c2, g', h', ea', rfl, hg', hh', i1', i2'⟩ := b' _ _ s
    have e1 : a1 = a := by omega
    have e2 : a2 = a := by omega
    subst e1; subst e2
    rw [hg] at hg'
    injection hg' with hg'
    subst hg'
    obtain ⟨as1, as2⟩ := f.asc _ _ hg
    obtain ⟨bs1, bs2⟩ := f.asc _ _ hh
    obtain ⟨cs1, cs2⟩ := f.asc _ _ hh'
    have ih' : ∀ x : Nat, x < a2 → ∀ j j', R x j → S x j' → j = j' := fun x hx => ih x (by omega)
    have e1 := side_one ih' as2 i1 i1' bs1.1 cs1.1
    have e2 := side_one ih' as1 i2 i2' bs2.1 cs2.1
    have eh : h = h' := Prod.ext e1 e2
    subst eh
    rw [nodup_at f.one hh hh']
theorem Bis.fn {G : List Pr} {R S : Int → Int → Prop} (f : Forms G) (b : Bis G R) (b' : Bis G S) {i j j' : Int} (r : R i j) (s : S i j') : j = j' := by
  obtain ⟨a, _, _, _, rfl, _⟩ := b _ _ r
  exact Bis.one f b b' (a + 1) a (Nat.lt_succ_self _) _ _ r s
theorem Bis.nj {G : List Pr} {R S : Int → Int → Prop} (f : Forms G) (b : Bis G R) (b' : Bis G S) {i i' j : Int} (r : R i j) (s : S i' j) : i = i' := Bis.fn f b.conv b'.conv (i := j) r s
theorem isHt_iff {hs : List Int} {g h : Pr} {x y : Int} (gx : IsHt hs g x) (hy : IsHt hs h y) (e : ∀ z, z ∈ (g.1 ++ g.2).map (hat hs) ↔ z ∈ (h.1 ++ h.2).map (hat hs)) : x = y := by
  rcases gx with ⟨n1, rfl⟩ | ⟨m, mm, ml, rfl⟩
  · rcases hy with ⟨_, rfl⟩ | ⟨m', mm', _⟩
    · rfl
    · have := (e m').mpr mm'
      rw [n1] at this
      simp at this
  · rcases hy with ⟨n2, rfl⟩ | ⟨m', mm', ml', rfl⟩
    · have := (e m).mp mm
      rw [n2] at this
      simp at this
    · have a := ml' m ((e m).mp mm)
      have b := ml m' ((e m').mpr mm')
      omega
theorem Bis.ht {G : List Pr} {hs : List Int} {R : Int → Int → Prop} (f : Forms G) (o : HtOk G hs) (b : Bis G R) : ∀ n a : Nat, a < n → ∀ j, R a j → hat hs a = hat hs j := by
  intro n
  induction n with
  | zero => intro a h; exact absurd h (Nat.not_lt_zero _)
  | succ n ih =>
    intro a ha j r
    obtain ⟨a1, c1, g, h, ea, rfl, hg, hh, i1, i2⟩ := b _ _ r
    have e1 : a1 = a := by omega
    subst e1
    obtain ⟨as1, as2⟩ := f.asc _ _ hg
    have key : ∀ z ∈ g.1 ++ g.2, ∀ j, R z j → hat hs z = hat hs j := fun z mz j r => by
      have bz := Asc.both as1 as2 z mz
      obtain ⟨zn, rfl⟩ : ∃ n : Nat, z = n := ⟨z.toNat, by omega⟩
      exact ih zn (by omega) j r
    refine isHt_iff (o _ _ hg) (o _ _ hh) fun z => ?_
    rw [List.mem_map, List.mem_map]
    constructor
    · rintro ⟨x, mx, rfl⟩
      rcases List.mem_append.mp mx with m | m
      · obtain ⟨y, my, r⟩ := i2.1 x m
        exact ⟨y, List.mem_append_right _ my, (key x mx y r).symm⟩
      · obtain ⟨y, my, r⟩ := i1.1 x m
        exact ⟨y, List.mem_append_left _ my, (key x mx y r).symm⟩
    · rintro ⟨y, my, rfl⟩
      rcases List.mem_append.mp my with m | m
      · obtain ⟨x, mx, r⟩ := i1.2 y m
        exact ⟨x, List.mem_append_right _ mx, key x (List.mem_append_right _ mx) y r⟩
      · obtain ⟨x, mx, r⟩ := i2.2 y m
        exact ⟨x, List.mem_append_left _ mx, key x (List.mem_append_left _ mx) y r⟩
/-! the dict of the turned games -/
def gr (ts : List (Key × V)) (i j : Int) : Prop := valV ts (Sum.inl i) = some (V.int j)
structure TOk (G : List Pr) (ts : List (Key × V)) : Prop where
  bis : Bis G (gr ts)
  sym : ∀ i j, gr ts i j → gr ts j i
  ns : ∀ i, dkey ts i = true → ∃ j, gr ts i j
theorem gr_key {ts : List (Key × V)} {i j : Int} (r : gr ts i j) : dkey ts i = true := by unfold dkey; rw [r]; rfl
/-! how many are not turned yet -/
def Un (n : Nat) (dk : Int → Bool) : Nat := ((nums n).filter fun i => !dk i).length
theorem nums_nodup (n : Nat) : (nums n).Nodup := (nums_asc n).1.imp fun h => Int.ne_of_lt h
theorem un_mono {n : Nat} {dk dk' : Int → Bool} (h : ∀ i, dk i = true → dk' i = true) : Un n dk' ≤ Un n dk :=
  nodup_le _ _ ((nums_nodup n).filter _) fun x m => by
    rw [List.mem_filter] at m ⊢
    refine ⟨m.1, ?_⟩
    cases e : dk x with
    | false => rfl
    | true => have := m.2; rw [h x e] at this; cases this
theorem un_lt {n : Nat} {dk dk' : Int → Bool} {a : Int} (h : ∀ i, dk i = true → dk' i = true) (ha : 0 ≤ a ∧ a < n) (h0 : dk a = false) (h1 : dk' a = true) : Un n dk' + 1 ≤ Un n dk := by
  have z := nodup_le (a :: (nums n).filter fun i => !dk' i) ((nums n).filter fun i => !dk i) (List.nodup_cons.mpr ⟨fun m => (by
    have := (List.mem_filter.mp m).2
    rw [h1] at this; cases this), (nums_nodup n).filter _⟩) fun x m => by
    rcases List.mem_cons.mp m with rfl | m
    · exact List.mem_filter.mpr ⟨mem_nums.mpr ha, by rw [h0]; rfl⟩
    · rw [List.mem_filter] at m ⊢
      refine ⟨m.1, ?_⟩
      cases e : dk x with
      | false => rfl
      | true => have := m.2; rw [h x e] at this; cases this
  rw [List.length_cons] at z
  exact z
theorem un_succ (n : Nat) (dk : Int → Bool) : Un (n + 1) dk ≤ Un n dk + 1 := by
  unfold Un
  rw [nums_succ, List.filter_append, List.length_append]
  have : ([(n : Int)].filter fun i => !dk i).length ≤ 1 := Nat.le_trans (List.length_filter_le _ _) (Nat.le_refl _)
  omega
theorem un_key {n : Nat} {dk : Int → Bool} (h : dk (n : Int) = true) : Un (n + 1) dk = Un n dk := by
  unfold Un
  rw [nums_succ, List.filter_append, List.length_append]
  have e : ([(n : Int)].filter fun i => !dk i) = [] := by rw [List.filter_cons, h]; rfl
  rw [e]; rfl
def Phi (G : List Pr) (ts : List (Key × V)) : Nat := G.length + Un G.length (dkey ts)
theorem phi_le (G : List Pr) (ts : List (Key × V)) : G.length ≤ Phi G ts := Nat.le_add_right _ _
theorem phi_put {G G' : List Pr} {p : Pr} {i : Int} {ts : List (Key × V)} (h : Put G p i G') : Phi G' ts ≤ Phi G ts + 2 := by
  rcases h with ⟨_, _, _, rfl⟩ | ⟨_, _, rfl⟩
  · omega
  · unfold Phi
    have := un_succ G.length (dkey ts)
    rw [List.length_append, List.length_singleton]
    omega
end Mine
namespace Mine
open PySem PySem.Spec PyProof.Rows L2
open Evl (Ex)
theorem val_put (ts : List (Key × V)) (k j : Int) (v : V) : valV (putK ts (Sum.inl k) v) (Sum.inl j) = if j = k then some v else valV ts (Sum.inl j) := by
  rw [valV_put]
  by_cases h : j = k
  · subst h; rw [if_pos rfl, if_pos rfl]
  · rw [if_neg (fun e => h (Sum.inl.inj e)), if_neg h]
theorem dkey_put (ts : List (Key × V)) (k j : Int) (v : V) : dkey (putK ts (Sum.inl k) v) j = (decide (j = k) || dkey ts j) := by
  unfold dkey
  rw [val_put]
  by_cases h : j = k
  · rw [if_pos h, decide_eq_true h]; rfl
  · rw [if_neg h, decide_eq_false h]; rfl
theorem dkey_up (ts : List (Key × V)) (k : Int) (v : V) (i : Int) (h : dkey ts i = true) : dkey (putK ts (Sum.inl k) v) i = true := by rw [dkey_put, h, Bool.or_true]
theorem put_len (ts : List (Key × V)) {k : Int} (v : V) {n : Nat} (hk : 0 ≤ k ∧ k < n) : (putK ts (Sum.inl k) v).length + Un n (dkey (putK ts (Sum.inl k) v)) ≤ ts.length + Un n (dkey ts) := by
  have m := un_mono (n := n) (dkey_up ts k v)
  cases e : dkey ts k with
  | true =>
    have l : (putK ts (Sum.inl k) v).length = ts.length := by
      unfold putK
      rw [if_pos (by rw [valV_any]; exact e), List.length_map]
    omega
  | false =>
    have l : (putK ts (Sum.inl k) v).length = ts.length + 1 := by
      unfold putK
      rw [if_neg (by rw [valV_any]; intro z; unfold dkey at e; rw [e] at z; cases z), List.length_append]
      rfl
    have := un_lt (n := n) (dkey_up ts k v) hk e (by rw [dkey_put, decide_eq_true rfl]; rfl)
    omega
def LenOk (G : List Pr) (ts : List (Key × V)) : Prop := ts.length + Un G.length (dkey ts) ≤ G.length
theorem LenOk.put {G G' : List Pr} {p : Pr} {i : Int} {ts : List (Key × V)} (l : LenOk G ts) (h : Put G p i G') : LenOk G' ts := by
  rcases h with ⟨_, _, _, rfl⟩ | ⟨_, _, rfl⟩
  · exact l
  · unfold LenOk at *
    have := un_succ G.length (dkey ts)
    rw [List.length_append, List.length_singleton]
    omega
theorem LenOk.few {G : List Pr} {ts : List (Key × V)} (l : LenOk G ts) : ts.length ≤ G.length := by unfold LenOk at l; omega
theorem TOk.goes {G G' : List Pr} {ts : List (Key × V)} (T : TOk G ts) (go : ∀ (i : Nat) (g : Pr), G[i]? = some g → G'[i]? = some g) : TOk G' ts := ⟨T.bis.goes go, T.sym, T.ns⟩
/-- the dict behind two entries more -/
def two (ts : List (Key × V)) (f t : Int) : List (Key × V) := putK (putK ts (Sum.inl f) (V.int t)) (Sum.inl t) (V.int f)
theorem TOk.two {G : List Pr} {ts : List (Key × V)} (T : TOk G ts) (F : Forms G) {f t : Nat} {g h : Pr} (hg : G[f]? = some g) (hh : G[t]? = some h) (i1 : Img (gr ts) g.2 h.1) (i2 : Img (gr ts) g.1 h.2) :
    TOk G (two ts f t) ∧ gr (two ts f t) f t ∧ ∀ i, dkey (two ts f t) i = (decide (i = (t : Int)) || (decide (i = (f : Int)) || dkey ts i)) := by
  have bS := T.bis.more T.sym hg hh i1 i2
  have val : ∀ i, valV (Mine.two ts f t) (Sum.inl i) = if i = (t : Int) then some (V.int f) else if i = (f : Int) then some (V.int t) else valV ts (Sum.inl i) := fun i => by
    unfold Mine.two
    rw [val_put, val_put]
  have iff : ∀ i j, gr (Mine.two ts f t) i j ↔ With (gr ts) f t i j := fun i j => by
    unfold gr
    rw [val]
    constructor
    · intro e
      by_cases h1 : i = (t : Int)
      · rw [if_pos h1] at e
        injection e with e
        injection e with e
        exact Or.inr (Or.inr ⟨h1, e.symm⟩)
      · rw [if_neg h1] at e
        by_cases h2 : i = (f : Int)
        · rw [if_pos h2] at e
          injection e with e
          injection e with e
          exact Or.inr (Or.inl ⟨h2, e.symm⟩)
        · rw [if_neg h2] at e
          exact Or.inl e
    · intro r
      by_cases h1 : i = (t : Int)
      · subst h1
        rw [if_pos rfl, Bis.fn F bS bS r (show With (gr ts) f t t f from Or.inr (Or.inr ⟨rfl, rfl⟩))]
      · rw [if_neg h1]
        by_cases h2 : i = (f : Int)
        · subst h2
          rw [if_pos rfl, Bis.fn F bS bS r (show With (gr ts) f t f t from Or.inr (Or.inl ⟨rfl, rfl⟩))]
        · rw [if_neg h2]
          rcases r with r | ⟨e, _⟩ | ⟨e, _⟩
          · exact r
          · exact absurd e h2
          · exact absurd e h1
  have dk : ∀ i, dkey (Mine.two ts f t) i = (decide (i = (t : Int)) || (decide (i = (f : Int)) || dkey ts i)) := fun i => by
    unfold Mine.two
    rw [dkey_put, dkey_put]
  refine ⟨⟨fun i j r => ?_, fun i j r => (iff j i).mpr (With.symm T.sym i j ((iff i j).mp r)), fun i d => ?_⟩, (iff _ _).mpr (Or.inr (Or.inl ⟨rfl, rfl⟩)), dk⟩
  · obtain ⟨a, b, g, h, ea, eb, hg, hh, j1, j2⟩ := bS i j ((iff i j).mp r)
    exact ⟨a, b, g, h, ea, eb, hg, hh, j1.mono fun i j => (iff i j).mpr, j2.mono fun i j => (iff i j).mpr⟩
  · rw [dk, Bool.or_eq_true, Bool.or_eq_true, decide_eq_true_eq, decide_eq_true_eq] at d
    rcases d with rfl | rfl | d
    · exact ⟨_, (iff _ _).mpr (Or.inr (Or.inr ⟨rfl, rfl⟩))⟩
    · exact ⟨_, (iff _ _).mpr (Or.inr (Or.inl ⟨rfl, rfl⟩))⟩
    · obtain ⟨j, r⟩ := T.ns i d
      exact ⟨j, (iff _ _).mpr (Or.inl r)⟩
/-- a game in the dict has its turned game already -/
theorem TOk.there {G : List Pr} {ts : List (Key × V)} (T : TOk G ts) (F : Forms G) {f : Nat} {g p : Pr} (hg : G[f]? = some g) (d : dkey ts f = true) (i1 : Img (gr ts) g.2 p.1) (i2 : Img (gr ts) g.1 p.2) (a1 : p.1.Pairwise (· < ·)) (a2 : p.2.Pairwise (· < ·)) : p ∈ G := by
  obtain ⟨j, r⟩ := T.ns f d
  obtain ⟨a, b, g', h, ea, rfl, hg', hh, j1, j2⟩ := T.bis f j r
  have e : a = f := by omega
  subst e
  rw [hg] at hg'
  injection hg' with hg'
  subst hg'
  obtain ⟨as1, as2⟩ := F.asc _ _ hg
  obtain ⟨bs1, bs2⟩ := F.asc _ _ hh
  have ih : ∀ x : Nat, x < a → ∀ j j', gr ts x j → gr ts x j' → j = j' := fun x _ j j' r s => Bis.fn F T.bis T.bis r s
  have e1 := side_one ih as2 i1 j1 a1 bs1.1
  have e2 := side_one ih as1 i2 j2 a2 bs2.1
  have : p = h := Prod.ext e1 e2
  rw [this]
  exact List.mem_of_getElem? hh
def tvF (ts : List (Key × V)) : V → Option V := fun v => match v with | .int k => valV ts (Sum.inl k) | _ => none
theorem tv_list {ts : List (Key × V)} (ns : ∀ i, dkey ts i = true → ∃ j, gr ts i j) (inj : ∀ x x' y, gr ts x y → gr ts x' y → x = x') : ∀ l : List Int, l.Nodup → (∀ o ∈ l, dkey ts o = true) → ∃ ls : List Int, (l.map V.int).filterMap (tvF ts) = ls.map V.int ∧ Img (gr ts) l ls ∧ ls.Nodup ∧ ls.length = l.length
  | [], _, _ => ⟨[], rfl, ⟨fun x m => (nomatch m), fun x m => (nomatch m)⟩, .nil, rfl⟩
  | x :: l, nd, h => by
    obtain ⟨n1, n2⟩ := List.nodup_cons.mp nd
    obtain ⟨ls, e, im, nn, ll⟩ := tv_list ns inj l n2 fun o m => h o (List.mem_cons_of_mem _ m)
    obtain ⟨y, r⟩ := ns x (h x List.mem_cons_self)
    have ex : tvF ts (V.int x) = some (V.int y) := r
    refine ⟨y :: ls, by rw [List.map_cons, List.filterMap_cons, ex, e]; rfl, ⟨fun z m => ?_, fun z m => ?_⟩, List.nodup_cons.mpr ⟨fun m => ?_, nn⟩, by rw [List.length_cons, List.length_cons, ll]⟩
    · rcases List.mem_cons.mp m with rfl | m
      · exact ⟨y, List.mem_cons_self, r⟩
      · obtain ⟨w, mw, q⟩ := im.1 z m
        exact ⟨w, List.mem_cons_of_mem _ mw, q⟩
    · rcases List.mem_cons.mp m with rfl | m
      · exact ⟨x, List.mem_cons_self, r⟩
      · obtain ⟨w, mw, q⟩ := im.2 z m
        exact ⟨w, List.mem_cons_of_mem _ mw, q⟩
    · obtain ⟨w, mw, q⟩ := im.2 y m
      have := inj _ _ _ r q
      subst this
      exact n1 mw
theorem Img.perm {R : Int → Int → Prop} {as bs cs : List Int} (x : Img R as bs) (p : cs.Perm bs) : Img R as cs :=
  ⟨fun i m => let ⟨j, mj, r⟩ := x.1 i m; ⟨j, p.mem_iff.mpr mj, r⟩, fun j m => x.2 j (p.mem_iff.mp m)⟩
/-- the yard with another dict of the turned games -/
theorem YardAt.setT {P : Program} {w : World} {K : PySem.W.Frag} {H : Hp} {F : Foot} {G : List Pr} {hs : List Int} {ts ts' : List (Key × V)} (Y : YardAt P w K H F G hs ts) : YardAt P w K (upd H F.t (.dK ts')) F G hs ts' := by
  have k : ∀ c o, H c = some o → c ≠ F.t → upd H F.t (.dK ts') c = some o := fun c o z y => (upd_ne y).trans z
  have t : ∀ c zs, H c = some (.tup zs) → upd H F.t (.dK ts') c = some (.tup zs) := fun c zs z => k _ _ z (ne_of z Y.ts (by intro y; cases y))
  exact ⟨k _ _ Y.ins (ne_of Y.ins Y.ts (by intro y; cases y)), let ⟨xs, h1, h2⟩ := Y.ls; ⟨xs, k _ _ h1 (ne_of h1 Y.ts (by intro y; cases y)), h2.ex t⟩, let ⟨xs, h1, h2⟩ := Y.rs; ⟨xs, k _ _ h1 (ne_of h1 Y.ts (by intro y; cases y)), h2.ex t⟩,
    ⟨k _ _ Y.hs.1 (ne_of Y.hs.1 Y.ts (by intro y; cases y)), Y.hs.2⟩, let ⟨kvs, h1, h2, h3⟩ := Y.ns; ⟨kvs, k _ _ h1 (ne_of h1 Y.ts (by intro y; cases y)), fun x m => (h2 x m).ex t, h3⟩, upd_same, Y.ne, Y.ht, Y.G⟩
end Mine
namespace Mine
open PySem PySem.Spec PyProof.Rows L2
open Evl (Ex)
theorem Bis.iff {G : List Pr} {R S : Int → Int → Prop} (b : Bis G R) (e : ∀ i j, R i j ↔ S i j) : Bis G S := fun i j s =>
  let ⟨a, c, g, h, ea, ec, hg, hh, i1, i2⟩ := b i j ((e i j).mpr s)
  ⟨a, c, g, h, ea, ec, hg, hh, i1.mono fun i j => (e i j).mp, i2.mono fun i j => (e i j).mp⟩
/-- a list as a relation: place and item -/
def Rd (dl : List Int) (i j : Int) : Prop := ∃ n : Nat, i = n ∧ dl[n]? = some j
theorem rd_snoc (dl : List Int) (t i j : Int) : Wit1 (Rd dl) dl.length t i j ↔ Rd (dl ++ [t]) i j := by
  constructor
  · rintro (⟨n, rfl, h⟩ | ⟨rfl, rfl⟩)
    · exact ⟨n, rfl, by rw [List.getElem?_append_left (List.getElem?_eq_some_iff.mp h).1]; exact h⟩
    · exact ⟨dl.length, rfl, by rw [List.getElem?_append_right (Nat.le_refl _), Nat.sub_self]; rfl⟩
  · rintro ⟨n, rfl, h⟩
    rcases Nat.lt_or_ge n dl.length with l | l
    · rw [List.getElem?_append_left l] at h
      exact Or.inl ⟨n, rfl, h⟩
    · have l2 := (List.getElem?_eq_some_iff.mp h).1
      rw [List.length_append, List.length_singleton] at l2
      have e : n = dl.length := by omega
      subst e
      rw [List.getElem?_append_right (Nat.le_refl _), Nat.sub_self] at h
      injection h with h
      exact Or.inr ⟨rfl, h.symm⟩
def fd (dl : List Int) (k : Int) : Int := dl.getD k.toNat 0
theorem rd_fd {dl : List Int} {k : Int} (h0 : 0 ≤ k) (h1 : k < dl.length) : Rd dl k (fd dl k) := ⟨k.toNat, by omega, by
  unfold fd
  rw [List.getD_eq_getElem?_getD, List.getElem?_eq_getElem (by omega)]; rfl⟩
theorem rd_one {dl : List Int} {i j : Int} (r : Rd dl i j) : j = fd dl i := by
  obtain ⟨n, rfl, h⟩ := r
  unfold fd
  rw [Int.toNat_natCast, List.getD_eq_getElem?_getD, h]; rfl
theorem fd_at {dl : List Int} {k : Int} (h0 : 0 ≤ k) (h1 : k < dl.length) : atI (dl.map V.int) k = some (V.int (fd dl k)) := by
  obtain ⟨z, _, e, f⟩ := atI_in (ls := dl) h0 h1
  rw [e, f]; rfl
theorem img_fd {dl as os : List Int} (b : ∀ x ∈ os, 0 ≤ x ∧ x < (dl.length : Int)) (e : ∀ k, k ∈ as ↔ k ∈ os.map (fd dl)) : Img (Rd dl) os as :=
  ⟨fun x m => ⟨fd dl x, (e _).mpr (List.mem_map.mpr ⟨x, m, rfl⟩), rd_fd (b x m).1 (b x m).2⟩, fun y m => by
    obtain ⟨x, mx, rfl⟩ := List.mem_map.mp ((e y).mp m)
    exact ⟨x, mx, rd_fd (b x mx).1 (b x mx).2⟩⟩
end Mine
namespace Mine
open PySem PySem.Spec PyProof.Rows L2
theorem sorted_eq {dl os h ns' : List Int} (pm : ns'.Perm (os.map (fd dl))) (le : ns'.Pairwise (· ≤ ·)) (nd : os.Nodup) (inj : ∀ x ∈ os, ∀ y ∈ os, fd dl x = fd dl y → x = y) (im : Img (Rd dl) os h) (ah : h.Pairwise (· < ·)) : ns' = h := by
  have nn : (os.map (fd dl)).Nodup := List.pairwise_map.mpr (List.Pairwise.imp_of_mem (fun {a b} ma mb (n : a ≠ b) e => n (inj a ma b mb e)) nd)
  refine asc_ext (L2.lt_of_le_nodup ns' le (pm.nodup_iff.mpr nn)) ah fun k => ?_
  rw [pm.mem_iff, List.mem_map]
  constructor
  · rintro ⟨x, mx, rfl⟩
    obtain ⟨y, my, r⟩ := im.1 x mx
    rw [← rd_one r]; exact my
  · intro m
    obtain ⟨x, mx, r⟩ := im.2 k m
    exact ⟨x, mx, (rd_one r).symm⟩
end Mine
namespace Mine
open PySem PySem.Spec PyProof.Rows L2
open Evl (Ex)
/-! numbers of very many bits -/
def CMulB (i j : Int) : Prop := i.natAbs.log2 + j.natAbs.log2 < 100000000
theorem bits_log (x : Int) : Builtin.Int.intBits x ≤ x.natAbs.log2 + 1 := by
  unfold Builtin.Int.intBits
  split <;> omega
theorem log_bits (x : Int) : x.natAbs.log2 ≤ Builtin.Int.intBits x := by
  unfold Builtin.Int.intBits
  split
  · rename_i h
    have h : x = 0 := by simpa using h
    rw [h]; decide
  · omega
theorem CMulB.ok {i j : Int} (h : CMulB i j) : IntMulOk i j := by
  have h1 := bits_log i
  have h2 := bits_log j
  have h3 : i.natAbs.log2 + j.natAbs.log2 < 100000000 := h
  have line : bitsLine = 134217728 := by decide
  intro z
  have z2 := (Bool.and_eq_true _ _ ▸ z).2
  unfold Builtin.Int.intTooBig at z2
  have z3 := of_decide_eq_true z2
  rw [line] at z3
  omega
abbrev rMulB : R2 := rI CMulB fun i j => .int (i * j)
theorem op_mulB {X : Cx} : OpR X (binaryOp .Mult) rMulB := opI fun _ _ _ _ _ _ _ hc q => mul_int q hc.ok
/-- the end of a law, the script's bits told -/
theorem walk_bits {l : PySem.W.OpenLaw} {n k : Nat} {q : Program} {loose : List Str} {XP : (Str → Option Value) → Heap → Prop} {YP : World → Heap → Prop} {d : DefRec} {CX : CXT} {x : Str}
    (few : l.most = some n) (line : n ≤ sizeLine) (plain : d.params.defaults = []) (room : Room k callerA)
    (make : ∀ (w : World) (mg : Str → Option Value) (fa : Addr) (h : Heap), YP w h → h.Ns mainGlobals mg → mg d.name = some (.ref fa) →
      ∃ (K : PySem.W.Frag) (fd : FuncData) (sp : Sp), K.In h ∧ (∀ (s : Shared) (u : Value), BindsTo s fd ⟨[u], []⟩ [(x, u)]) ∧
        (∀ (H : Hp) (a : Addr) (ns : List Int), ns.length ≤ n → (∀ z ∈ ns, Builtin.Int.intBits z ≤ 1048576) → Only H → SqL K H a (ns.map V.int) → sp [.ref a] H (fun v _ => v = .bl true) fun _ _ _ => False) ∧
        ∀ base : Heap, K.In base → base.Ns mainGlobals mg → FnOk l.prog w K mg base CX k fa fd [x] sp)
    (calm : ∀ (H : Hp) (s : Shared) (e : Value) (s' : Shared), CX [] H s (fun _ _ _ => False) e s' → False) :
    PySem.W.WalkO q loose XP YP l.row.toRowW d [] (fun f vs => PySem.call f vs) := by
  refine Att.attach_callB few plain fun w s₀ s₁ mg mb fa o pm cd doc a vs ns G Y ho hd hcd hmg hobj isI hlen bits hg => ?_
  obtain ⟨K, fd, sp, KX, hb, ask, hF⟩ := make w mg fa _ Y G.T.g hmg
  exact law_call KX G.T.g G.T.b G.T.builtins G.T.nolimit hg hobj isI (Nat.le_trans hlen line) room hF hb (fun H hO hS => ask H a ns hlen bits hO hS) fun H e s' => calm H s₁ e s'
end Mine
namespace Mine
open PySem PySem.Spec PyProof.Rows L2
open Evl (Ex)
/-! rows of games, each with the one before it as its only option -/
def OddAt (m : Int) (k : Nat) : Prop := Builtin.bitAnd (m / 2 ^ (k : Int).toNat) 1 = 1
theorem oddAt_iff (m : Int) (k : Nat) : OddAt m k ↔ m / 2 ^ k % 2 = 1 := by
  unfold OddAt
  rw [bitAnd_m1, Int.toNat_natCast]
theorem oddAt_not {m : Int} {k : Nat} (hk : k < 100) : OddAt (2 ^ 100 - 1 - m) k ↔ ¬ OddAt m k := by
  rw [oddAt_iff, oddAt_iff]
  have e : (2 : Int) ^ 100 = 2 ^ k * (2 * 2 ^ (99 - k)) := by
    rw [← Int.pow_succ', ← Int.pow_add]
    congr 1
    omega
  rw [e]
  have hp : (0 : Int) < 2 ^ k := Int.pow_pos (by decide)
  have a1 := Int.emod_nonneg m (Int.ne_of_gt hp)
  have a2 := Int.emod_lt_of_pos m hp
  have a3 := Int.emod_add_mul_ediv m (2 ^ k)
  have z := ((Int.ediv_emod_unique (a := 2 ^ k * (2 * 2 ^ (99 - k)) - 1 - m) (b := 2 ^ k) (r := 2 ^ k - 1 - m % 2 ^ k) (q := 2 * 2 ^ (99 - k) - 1 - m / 2 ^ k) hp).mpr ⟨by
    rw [Int.mul_sub, Int.mul_sub, Int.mul_one]
    omega, by omega, by omega⟩).1
  rw [z]
  generalize m / 2 ^ k = q
  generalize (2 : Int) ^ (99 - k) = R
  omega
structure Chn (G : List Pr) (m : Int) (cs : List Int) : Prop where
  zero : cs[0]? = some 0
  step : ∀ k : Nat, k + 1 < cs.length → ∃ x y : Nat, cs[k]? = some (x : Int) ∧ cs[k + 1]? = some (y : Int) ∧ ((OddAt m k ∧ G[y]? = some ([(x : Int)], [])) ∨ (¬ OddAt m k ∧ G[y]? = some ([], [(x : Int)])))
theorem Chn.goes {G G' : List Pr} {m : Int} {cs : List Int} (c : Chn G m cs) (go : ∀ (i : Nat) (g : Pr), G[i]? = some g → G'[i]? = some g) : Chn G' m cs :=
  ⟨c.zero, fun k h => let ⟨x, y, hx, hy, z⟩ := c.step k h; ⟨x, y, hx, hy, z.imp (fun ⟨b, e⟩ => ⟨b, go _ _ e⟩) fun ⟨b, e⟩ => ⟨b, go _ _ e⟩⟩⟩
theorem Chn.snoc {G : List Pr} {m : Int} {cs : List Int} {n x y : Nat} (c : Chn G m cs) (l : cs.length = n + 1) (hx : cs[n]? = some (x : Int)) (h : (OddAt m n ∧ G[y]? = some ([(x : Int)], [])) ∨ (¬ OddAt m n ∧ G[y]? = some ([], [(x : Int)]))) : Chn G m (cs ++ [(y : Int)]) := by
  refine ⟨by rw [List.getElem?_append_left (by omega)]; exact c.zero, fun k hk => ?_⟩
  rw [List.length_append, List.length_singleton] at hk
  rcases Nat.lt_or_ge (k + 1) cs.length with lt | ge
  · obtain ⟨x, y, hx, hy, z⟩ := c.step k lt
    exact ⟨x, y, by rw [List.getElem?_append_left (by omega)]; exact hx, by rw [List.getElem?_append_left lt]; exact hy, z⟩
  · have e : k = n := by omega
    subst e
    exact ⟨x, y, by rw [List.getElem?_append_left (by omega)]; exact hx, by rw [← l, List.getElem?_append_right (Nat.le_refl _), Nat.sub_self]; rfl, h⟩
/-- two rows as a relation -/
def RC (cs ds : List Int) (i j : Int) : Prop := ∃ k : Nat, cs[k]? = some i ∧ ds[k]? = some j
theorem rc_bis {G : List Pr} {m m' : Int} {cs ds : List Int} (F : Forms G) (c : Chn G m cs) (d : Chn G m' ds) (len : cs.length = ds.length) (ne : ∀ k, k + 1 < cs.length → (OddAt m' k ↔ ¬ OddAt m k)) : Bis G (RC cs ds) := by
  rintro i j ⟨k, hi, hj⟩
  cases k with
  | zero =>
    have e1 : i = 0 := by have := c.zero; rw [hi] at this; exact Option.some.inj this
    have e2 : j = 0 := by have := d.zero; rw [hj] at this; exact Option.some.inj this
    subst e1; subst e2
    have nil : Img (RC cs ds) [] [] := ⟨fun x m => (nomatch m), fun x m => (nomatch m)⟩
    exact ⟨0, 0, _, _, rfl, rfl, F.zero, F.zero, nil, nil⟩
  | succ k =>
    have kl := (List.getElem?_eq_some_iff.mp hi).1
    obtain ⟨x, y, hx, hy, z⟩ := c.step k kl
    obtain ⟨x', y', hx', hy', z'⟩ := d.step k (by omega)
    rw [hi] at hy
    rw [hj] at hy'
    injection hy with hy
    injection hy' with hy'
    have nil : Img (RC cs ds) [] [] := ⟨fun x m => (nomatch m), fun x m => (nomatch m)⟩
    have one : Img (RC cs ds) [(x : Int)] [(x' : Int)] := ⟨fun a ma => by rw [List.mem_singleton.mp ma]; exact ⟨_, List.mem_singleton.mpr rfl, k, hx, hx'⟩, fun a ma => by rw [List.mem_singleton.mp ma]; exact ⟨_, List.mem_singleton.mpr rfl, k, hx, hx'⟩⟩
    have nk := ne k kl
    rcases z with ⟨b, e⟩ | ⟨b, e⟩
    · rcases z' with ⟨b', e'⟩ | ⟨b', e'⟩
      · exact absurd b (nk.mp b')
      · exact ⟨y, y', _, _, hy, hy', e, e', nil, one⟩
    · rcases z' with ⟨b', e'⟩ | ⟨b', e'⟩
      · exact ⟨y, y', _, _, hy, hy', e, e', one, nil⟩
      · exact absurd (nk.mpr b) b'
end Mine
namespace Mine
open PySem PySem.Spec PyProof.Rows L2
open Evl (Ex)
/-- a comprehension over a list whose items' reckoning changes the heap -/
theorem lcR_st {te : TE} {σ : L2.St} {Q : VK} {H1 : Hp} {K : PySem.W.Frag} {a : Addr} {xs : List V} {i : Nat} (St : Nat → List V → Hp → Prop) (hS : ∀ n acc H, St n acc H → SqL K H a xs) (len : xs.length < sizeLine)
    (mu : ∀ D n acc ys H H', H1 D = none → H D = some (.lst ys) → (∀ c o, H c = some o → c ≠ D → H' c = some o) → St n acc H → St n acc H') (h0 : ∀ D, H1 D = none → St 0 [] (upd H1 D (.lst [])))
    (hs : ∀ n x acc H D ys, H1 D = none → H D = some (.lst ys) → xs[n]? = some x → acc.length = n → St n acc H → ∀ R : VK, (∀ y H', H' D = some (.lst ys) → St (n + 1) (acc ++ [y]) H' → R y H') → te ((wipe σ [i]).set i (some x)) H R)
    (q : ∀ D acc H', H1 D = none → acc.length = xs.length → H' D = some (.lst acc) → St xs.length acc H' → Q (.ref D) H') (w : ∀ x, wipe ((wipe σ [i]).set i (some x)) [i] = wipe σ [i] := by intro x; rfl) : lcR (gName i) tYes te [i] σ Q (Itl K a) H1 := by
  intro D hD
  refine lc_list (K := K) (a := a) (xs := xs) (fun n H => ∃ acc : List V, acc.length = n ∧ H D = some (.lst acc) ∧ St n acc H) ⟨[], rfl, upd_same, h0 D hD⟩ (fun n H _ ⟨acc, _, _, s⟩ => hS n acc H s) (fun n x H hx ⟨acc, la, hd, s⟩ => ?_) (fun H ⟨acc, la, hd, s⟩ => q D acc H hD la hd s)
  refine ⟨w x, ?_⟩
  refine hs n x acc H D acc hD hd hx la s _ fun y H4 h4 s4 => ?_
  refine ⟨acc, h4, ?_, acc ++ [y], by rw [List.length_append, la]; rfl, upd_same, mu D _ _ acc H4 _ hD h4 (fun c o z n => (upd_ne n).trans z) s4⟩
  rw [la]
  exact Nat.lt_of_le_of_lt (Nat.le_of_lt (List.getElem?_eq_some_iff.mp hx).1) len
end Mine
namespace Mine
open PySem PySem.Spec PyProof.Rows L2
/-- the dict of a new yard -/
def ts0 : List (Key × V) := [(Sum.inl 0, V.int 0)]
theorem gr0 (i j : Int) : gr ts0 i j ↔ i = 0 ∧ j = 0 := by
  unfold gr ts0
  by_cases h : i = 0
  · subst h
    rw [valV_pos (p := ((Sum.inl 0 : Key), V.int 0)) rfl]
    constructor
    · intro e; injection e with e; injection e with e; exact ⟨rfl, e.symm⟩
    · rintro ⟨_, rfl⟩; rfl
  · rw [valV_neg (p := ((Sum.inl 0 : Key), V.int 0)) (fun e => h (Sum.inl.inj e).symm)]
    constructor
    · intro e; cases e
    · rintro ⟨e, _⟩; exact absurd e h
theorem key0 : dkey ts0 0 = true := rfl
theorem tok0 {G : List Pr} (F : Forms G) : TOk G ts0 := by
  refine ⟨fun i j r => ?_, fun i j r => (gr0 j i).mpr ((gr0 i j).mp r).symm, fun i d => ?_⟩
  · obtain ⟨rfl, rfl⟩ := (gr0 i j).mp r
    have nil : Img (gr ts0) [] [] := ⟨fun x m => (nomatch m), fun x m => (nomatch m)⟩
    exact ⟨0, 0, _, _, rfl, rfl, F.zero, F.zero, nil, nil⟩
  · by_cases h : i = 0
    · exact ⟨0, (gr0 i 0).mpr ⟨h, rfl⟩⟩
    · exfalso
      unfold dkey ts0 at d
      rw [valV_neg (p := ((Sum.inl 0 : Key), V.int 0)) (fun e => h (Sum.inl.inj e).symm)] at d
      cases d
theorem un_all (n : Nat) (dk : Int → Bool) : Un n dk ≤ n := by
  unfold Un
  have := List.length_filter_le (fun i => !dk i) (nums n)
  rw [nums_len] at this
  exact this
theorem lok0 {G : List Pr} (F : Forms G) : LenOk G ts0 := by
  have g0 := (List.getElem?_eq_some_iff.mp F.zero).1
  have := un_lt (n := G.length) (dk := fun _ => false) (dk' := dkey ts0) (a := 0) (fun i h => by cases h) ⟨by omega, by omega⟩ rfl key0
  have := un_all G.length fun _ => false
  show 1 + _ ≤ _
  omega
theorem phi0 (G : List Pr) (ts : List (Key × V)) : Phi G ts ≤ 2 * G.length := by
  have := un_all G.length (dkey ts)
  unfold Phi
  omega
end Mine
namespace Mine
open PySem PySem.Spec PyProof.Rows L2
open Evl (Ex)
/-! dicts whose keys are nested tuples of ints and texts, with any values -/
mutual
/-- the value is the key -/
inductive KeyV (H : Hp) : NestedKey → V → Prop
  | num (i : Int) : KeyV H (.num i) (.int i)
  | text (s : Str) : KeyV H (.text s) (.str s)
  | tup {a : Addr} {ks : List NestedKey} {xs : List V} : H a = some (.tup xs) → KeyVs H ks xs → KeyV H (.tup ks) (.ref a)
inductive KeyVs (H : Hp) : List NestedKey → List V → Prop
  | nil : KeyVs H [] []
  | cons {k : NestedKey} {x : V} {ks : List NestedKey} {xs : List V} : KeyV H k x → KeyVs H ks xs → KeyVs H (k :: ks) (x :: xs)
end
mutual
theorem KeyV.keep {H H' : Hp} (z : ∀ c xs, H c = some (.tup xs) → H' c = some (.tup xs)) : ∀ {k : NestedKey} {x : V}, KeyV H k x → KeyV H' k x
  | _, _, .num i => .num i
  | _, _, .text s => .text s
  | _, _, .tup h t => .tup (z _ _ h) (KeyVs.keep z t)
theorem KeyVs.keep {H H' : Hp} (z : ∀ c xs, H c = some (.tup xs) → H' c = some (.tup xs)) : ∀ {k : List NestedKey} {x : List V}, KeyVs H k x → KeyVs H' k x
  | _, _, .nil => .nil
  | _, _, .cons h t => .cons (KeyV.keep z h) (KeyVs.keep z t)
end
theorem KeyV.ex {H H' : Hp} {k : NestedKey} {x : V} (h : KeyV H k x) (e : Ex H H') : KeyV H' k x := h.keep fun c xs z => e c _ z
section
variable {P : Program} {w : World} {H : Hp} {h : Heap}
mutual
theorem KeyV.nested (ok : HOk P w H h) : ∀ {k : NestedKey} {x : V} {u : Value}, KeyV H k x → RelV x u → NestedIs h k u
  | _, _, _, .num i, r => by obtain ⟨tk, rfl⟩ := r; exact .int i tk
  | _, _, _, .text s, r => by obtain ⟨tk, rfl⟩ := r; exact .text s tk
  | _, _, _, .tup (a := a) (xs := xs) e t, r => by
    obtain rfl := (show _ = Value.ref a from r)
    obtain ⟨_, its, r2, o, h1, h2, n, h3⟩ := (show ObjOk P w H h a (.tup xs) from ok a _ e)
    exact .tup h1 h2 h3 (by simpa using KeyVs.nested ok t r2)
theorem KeyVs.nested (ok : HOk P w H h) : ∀ {ks : List NestedKey} {xs : List V} {us : List Value}, KeyVs H ks xs → Vals xs us → NestedAll h ks us
  | _, _, _, .nil, r => by cases r; exact .nil
  | _, _, _, .cons a t, r => by
    cases r with
    | cons r1 r2 => exact .cons (KeyV.nested ok a r1) (KeyVs.nested ok t r2)
end
theorem KeyV.is {k : NestedKey} {b : Addr} (t : KeyV H k (.ref b)) (d : k.depth ≤ 8) (ok : HOk P w H h) : (nestedKind P w).is h k b := ⟨t.nested ok rfl, d⟩
end
abbrev NE := NestedKey × Addr × V
abbrev NW : List NE → List (NestedKey × Addr × Value) → Prop := Paired fun p q => q.1 = p.1 ∧ q.2.1 = p.2.1 ∧ RelV p.2.2 q.2.2
def lookV (kvs : List NE) (k : NestedKey) : Option V := (kvs.find? fun e => decide (e.1 = k)).map (·.2.2)
def putE (k : NestedKey) (v : V) (e : NE) : NE := if e.1 = k then (e.1, e.2.1, v) else e
def putV (kvs : List NE) (k : NestedKey) (b : Addr) (v : V) : List NE := if (lookV kvs k).isSome = true then kvs.map (putE k v) else kvs ++ [(k, b, v)]
/-- none or some of both -/
theorem NW.look {kvs : List NE} {xs : List (NestedKey × Addr × Value)} (r : NW kvs xs) (k : NestedKey) : RelO (lookV kvs k) ((atKey xs k).map (·.2)) := by
  induction r with
  | nil => exact True.intro
  | @cons e q es qs h t ih =>
    obtain ⟨h1, h2, h3⟩ := h
    by_cases z : e.1 = k
    · have b : atKey (q :: qs) k = some q.2 := by simp [atKey, List.find?_cons, h1, z]
      have c : lookV (e :: es) k = some e.2.2 := by simp [lookV, List.find?_cons, z]
      rw [b, c]
      exact h3
    · have b : atKey (q :: qs) k = atKey qs k := by simp [atKey, List.find?_cons, h1, z]
      have c : lookV (e :: es) k = lookV es k := by simp [lookV, List.find?_cons, z]
      rw [b, c]
      exact ih
theorem NW.some_iff {kvs : List NE} {xs : List (NestedKey × Addr × Value)} (r : NW kvs xs) (k : NestedKey) : (atKey xs k).isSome = (lookV kvs k).isSome := by
  have rl := NW.look r k
  cases q : atKey xs k with
  | none =>
    cases q2 : lookV kvs k with
    | none => rfl
    | some v => rw [q, q2] at rl; exact rl.elim
  | some y =>
    cases q2 : lookV kvs k with
    | none => rw [q, q2] at rl; exact rl.elim
    | some v => rfl
theorem NW.len {kvs : List NE} {xs : List (NestedKey × Addr × Value)} (r : NW kvs xs) : kvs.length = xs.length := Paired.length r
theorem NW.map {kvs : List NE} {xs : List (NestedKey × Addr × Value)} {k : NestedKey} {v : V} {u : Value} (ru : RelV v u) (r : NW kvs xs) : NW (kvs.map (putE k v)) (xs.map (putAt k u)) := by
  induction r with
  | nil => exact .nil
  | @cons e q es qs h t ih =>
    obtain ⟨h1, h2, h3⟩ := h
    refine .cons ?_ ih
    unfold putE putAt
    by_cases z : e.1 = k
    · rw [if_pos z, if_pos (h1.trans z)]; exact ⟨h1, h2, ru⟩
    · rw [if_neg z, if_neg (fun y => z (h1.symm.trans y))]; exact ⟨h1, h2, h3⟩
theorem NW.put {kvs : List NE} {xs : List (NestedKey × Addr × Value)} {k : NestedKey} {b : Addr} {v : V} {u : Value} (r : NW kvs xs) (ru : RelV v u) : NW (putV kvs k b v) (storedH xs k b u) := by
  unfold putV storedH
  rw [NW.some_iff r]
  split
  · exact NW.map ru r
  · exact Paired.snoc r ⟨rfl, rfl, ru⟩
/-- what stands at a -/
def NvR (P : Program) (w : World) (h : Heap) (a : Addr) (kvs : List NE) : Prop := kvs.length ≤ sizeLine ∧ (a == sysModules) = false ∧ ∃ xs : List (NestedKey × Addr × Value), NW kvs xs ∧
  ∃ o es ep, h.get? a = some o ∧ o.ExactDict ∧ o.data = .dict es ep ∧ es.toList = xs.map (entryOfKey (nestedKind P w)) ∧ (xs.map (·.1)).Nodup
def NvO (P : Program) (w : World) (a : Addr) (kvs : List NE) : HO := .ext fun h => NvR P w h a kvs
/-- the keys stand -/
def KeysV (H : Hp) (kvs : List NE) : Prop := ∀ e ∈ kvs, KeyV H e.1 (.ref e.2.1) ∧ e.1.depth ≤ 8
theorem KeysV.keep {H H' : Hp} {kvs : List NE} (h : KeysV H kvs) (z : ∀ c xs, H c = some (.tup xs) → H' c = some (.tup xs)) : KeysV H' kvs := fun e m => ⟨(h e m).1.keep z, (h e m).2⟩
theorem KeysV.ex {H H' : Hp} {kvs : List NE} (h : KeysV H kvs) (e : Ex H H') : KeysV H' kvs := h.keep fun c xs z => e c _ z
theorem KeysV.put {H : Hp} {kvs : List NE} {k : NestedKey} {b : Addr} {v : V} (h : KeysV H kvs) (t : KeyV H k (.ref b)) (d : k.depth ≤ 8) : KeysV H (putV kvs k b v) := by
  intro e m
  unfold putV at m
  split at m
  · obtain ⟨e', m', rfl⟩ := List.mem_map.mp m
    unfold putE
    split
    · exact h e' m'
    · exact h e' m'
  · rcases List.mem_append.mp m with m | m
    · exact h e m
    · rw [List.mem_singleton] at m
      subst m
      exact ⟨t, d⟩
theorem NW.keys {P : Program} {w : World} {H : Hp} {h : Heap} (ok : HOk P w H h) {kvs : List NE} {xs : List (NestedKey × Addr × Value)} (r : NW kvs xs) : KeysV H kvs → ∀ x ∈ xs, (nestedKind P w).is h x.1 x.2.1 := by
  induction r with
  | nil => intro _ x hx; exact nomatch hx
  | @cons e q es qs hq t ih =>
    intro k x hx
    rcases List.mem_cons.mp hx with z | hx
    · subst z
      obtain ⟨h1, h2, _⟩ := hq
      rw [h1, h2]
      exact (k e List.mem_cons_self).1.is (k e List.mem_cons_self).2 ok
    · exact ih (fun e' m => k e' (List.mem_cons_of_mem _ m)) x hx
theorem nv_at {P : Program} {w : World} {H : Hp} {h : Heap} {a : Addr} {kvs : List NE} (ok : HOk P w H h) (e : H a = some (NvO P w a kvs)) (k : KeysV H kvs) :
    kvs.length ≤ sizeLine ∧ (a == sysModules) = false ∧ ∃ xs, NW kvs xs ∧ h.DictOfH (nestedKind P w) a xs := by
  obtain ⟨z, y, xs, r, o, es, ep, h1, h2, h3, h4, h5⟩ := (ok a _ e).1
  exact ⟨z, y, xs, r, o, es, ep, h1, h2, h3, h4, NW.keys ok r k, h5⟩
theorem nv_new {P : Program} {w : World} {H : Hp} {h : Heap} {a : Addr} {kvs : List NE} (R : NvR P w h a kvs) : ObjOk P w H h a (NvO P w a kvs) := by
  have ⟨_, _, _, _, o, _, _, ho, _⟩ := R
  refine ⟨R, ⟨o, ho⟩, fun h1 h2 p k => ?_⟩
  obtain ⟨z, y, xs, r, o, es, ep, g1, g⟩ := p
  exact ⟨z, y, xs, r, o, es, ep, k _ g1, g⟩
theorem nv_type {P : Program} {w : World} {s : Shared} {H : Hp} {a : Addr} {kvs : List NE} (ok : HOk P w H s.heap) (e : H a = some (NvO P w a kvs)) : s.TypeIs (.ref a) "dict" := by
  obtain ⟨_, _, _, _, o, es, ep, h1, h2, _⟩ := (ok a _ e).1
  exact ⟨o, h1, h2.1⟩
section
variable {X : Cx} {pins : List (Addr × Obj)} {σ : L2.St} {H : Hp} {s : Shared} {a b : Addr} {kvs : List NE} {p : NestedKey} {A : Around} {E : Value → Shared → Prop}
theorem nv_stored {v : V} {u : Value} {h' : Heap} {t' : Nat} {xs : List (NestedKey × Addr × Value)} (I : Inv X pins σ H s) (e : H a = some (NvO X.prog X.w a kvs)) (hd : (a == sysModules) = false) (r : NW kvs xs) (ru : RelV v u) (hl : kvs.length < sizeLine)
    (dd' : Heap.DictOfH (nestedKind X.prog X.w) h' a (storedH xs p b u)) (hs : Heap.SameBut a s.heap h') : Inv X pins σ (upd H a (NvO X.prog X.w a (putV kvs p b v))) { heap := h', gens := s.gens, drawn := s.drawn, toks := t', os := s.os } := by
  obtain ⟨q, es, ep, hq, h2, h3, h4, _, h5⟩ := dd'
  refine I.write (x := a) (e := a) (by rw [e]; exact True.intro) (.inl rfl) (fun c u hc y => (hs.2 c hc).trans y) ⟨q, hq⟩ (nv_new ⟨?_, hd, _, NW.put r ru, q, es, ep, hq, h2, h3, h4, h5⟩)
  unfold putV
  split
  · rw [List.length_map]; omega
  · rw [List.length_append, List.length_singleton]; omega
theorem nv_in {Q : Value → Shared → Prop} (hu : A.units + 9 < cLine) (I : Inv X pins σ H s) (e : H a = some (NvO X.prog X.w a kvs)) (k : KeysV H kvs) (kb : KeyV H p (.ref b)) (dp : p.depth ≤ 8)
    (h : ∀ s', Inv X pins σ H s' → Q (.bool (lookV kvs p).isSome) s') : wpAny (model X.prog X.w) A (compareOp .In (.ref b) (.ref a)) Q E s := by
  obtain ⟨z, hd, xs, r, dd⟩ := nv_at I.hok e k
  refine wpAny_in_heap (knd := nestedKind X.prog X.w) (show A.in1.units + 8 < cLine by rw [Around.in1_units]; omega) (kb.is dp I.hok) hd dd ?_
  rw [NW.some_iff r]
  exact h _ (I.tok _)
theorem nv_notin {Q : Value → Shared → Prop} (hu : A.units + 9 < cLine) (I : Inv X pins σ H s) (e : H a = some (NvO X.prog X.w a kvs)) (k : KeysV H kvs) (kb : KeyV H p (.ref b)) (dp : p.depth ≤ 8)
    (h : ∀ s', Inv X pins σ H s' → Q (.bool (!(lookV kvs p).isSome)) s') : wpAny (model X.prog X.w) A (compareOp .NotIn (.ref b) (.ref a)) Q E s := by
  obtain ⟨z, hd, xs, r, dd⟩ := nv_at I.hok e k
  refine wpAny_notIn_heap (knd := nestedKind X.prog X.w) (show A.in1.units + 8 < cLine by rw [Around.in1_units]; omega) (kb.is dp I.hok) hd dd ?_
  rw [NW.some_iff r]
  exact h _ (I.tok _)
theorem nv_set {v : V} {u : Value} {Q : Unit → Shared → Prop} (hu : A.units + 9 < cLine) (I : Inv X pins σ H s) (e : H a = some (NvO X.prog X.w a kvs)) (k : KeysV H kvs) (kb : KeyV H p (.ref b)) (dp : p.depth ≤ 8) (hl : kvs.length < sizeLine) (ru : RelV v u)
    (h : ∀ s', Inv X pins σ (upd H a (NvO X.prog X.w a (putV kvs p b v))) s' → Q () s') : wpAny (model X.prog X.w) A (setItem (.ref a) (.ref b) u) Q E s := by
  obtain ⟨z, hd, xs, r, dd⟩ := nv_at I.hok e k
  have hz : xs.length ≤ sizeLine := by rw [← NW.len r]; exact z
  exact wpAny_setItem_heap (hsz := hz) (knd := nestedKind X.prog X.w) (show A.in1.units + 8 < cLine by rw [Around.in1_units]; omega) (kb.is dp I.hok) dd fun h' dd' hs => h _ (nv_stored I e hd r ru hl dd' hs)
end
/-! readings and rules -/
/-- {} -/
def tNNew (P : Program) (w : World) : TE := fun σ H Q => ∀ d, H d = none → Q (.ref d) (upd H d (NvO P w d []))
/-- d.setdefault(k, v) -/
def tNSetd (P : Program) (w : World) (td : TE) (t : TA) : TE := fun σ H Q => td σ H fun x H1 => ∃ a kvs0, x = V.ref a ∧ H1 a = some (NvO P w a kvs0) ∧ t σ H1 fun xs H2 => ∃ b z kvs k, xs = [.ref b, z] ∧ H2 a = some (NvO P w a kvs) ∧ KeysV H2 kvs ∧ KeyV H2 k (.ref b) ∧ k.depth ≤ 8 ∧ kvs.length < sizeLine ∧
  (∀ v, lookV kvs k = some v → Q v H2) ∧ (lookV kvs k = none → Q z (upd H2 a (NvO P w a (putV kvs k b z))))
/-- the view of a dict's values -/
def VwO (q a : Addr) : HO := .ext fun h => h.IsValuesView q a
/-- d.values() -/
def tNVals (P : Program) (w : World) (td : TE) : TE := fun σ H Q => td σ H fun x H1 => ∃ a kvs, x = V.ref a ∧ H1 a = some (NvO P w a kvs) ∧ ∀ q, H1 q = none → Q (.ref q) (upd H1 q (VwO q a))
/-- list(d.values()) -/
def rListVw (P : Program) (w : World) : List V → Hp → VK → Prop := fun xs H Q => ∃ q a kvs, xs = [.ref q] ∧ H q = some (VwO q a) ∧ H a = some (NvO P w a kvs) ∧ ∀ p, H p = none → Q (.ref p) (upd H p (.lst (kvs.map (·.2.2))))
theorem NW.vals {kvs : List NE} {xs : List (NestedKey × Addr × Value)} (r : NW kvs xs) : Vals (kvs.map (·.2.2)) (xs.map (·.2.2)) := by
  induction r with
  | nil => exact .nil
  | cons h t ih => exact .cons h.2.2 ih
section
variable {X : Cx} {o i e value : Expr} {es : List Expr} {pos apos cpos : Pos} {td ty tv tk : TE} {t : TA}
theorem pe_nnew : PE X (.Dict [] [] pos) (tNNew X.prog X.w) := by
  refine ⟨fun pins s σ H Q I h => ?_⟩
  have hn := I.hok.fresh (Nat.le_refl s.heap.objs.size)
  have hb := I.big
  have R0 : NvR X.prog X.w (s.heap.push { cls := .type "dict", data := .dict #[] }) s.heap.objs.size [] :=
    ⟨Nat.zero_le _, beq_eq_false_iff_ne.mpr (Ne.symm (Nat.ne_of_lt hb)), [], .nil, _, #[], 0, Heap.get?_push_size _ rfl, ⟨rfl, rfl, rfl⟩, rfl, rfl, List.nodup_nil⟩
  have I1 := I.laid (a := s.heap.objs.size) (o := NvO X.prog X.w s.heap.objs.size []) (h' := s.heap.push { cls := .type "dict", data := .dict #[] }) (t' := s.toks) (fun _ _ q => Heap.get?_push_of_some _ q) (Nat.le_refl _) (nv_new R0)
  exact wpAny_Dict_empty ⟨.ref s.heap.objs.size, _, I1, rfl, h _ hn⟩
theorem nv_bare {P : Program} {w : World} {H : Hp} {h : Heap} {a : Addr} {kvs : List NE} (ok : HOk P w H h) (e : H a = some (NvO P w a kvs)) : ∀ a', Value.ref a = Value.ref a' → ∃ ob, h.get? a' = some ob ∧ ob.dict = none := by
  intro a' q
  injection q with q
  subst q
  obtain ⟨_, _, _, _, o, es, ep, h1, h2, _⟩ := (ok a _ e).1
  exact ⟨o, h1, h2.2.1⟩
theorem pe_nsetd (hu : X.A.units + 9 < cLine) (ho : PE X o td) (ha : PA X (e :: es) t) (hb : attributeBase o "setdefault" X.env (eval o X.env) = eval o X.env := by rfl)
    (hf : (((backTo cpos (starEach (e :: es) X.env)).all (! ·.1)) && (backToKw cpos (keywordEach [] X.env)).all (·.1.isSome) && decide ((e :: es).length + ([] : List (Option Str × Expr)).length + (if ([] : List (Option Str × Expr)).isEmpty = true then 0 else 1) < 30)) = true := by rfl)
    (hl : (apos.endLine == cpos.line) = true := by rfl) (hst : starEach (e :: es) X.env = (false, eval e X.env) :: starEach es X.env := by rfl) (hpl : (backTo cpos (starEach es X.env)).any (·.1) = false := by rfl) :
    PE X (.Call (.Attribute o "setdefault" apos) (e :: es) [] cpos) (tNSetd X.prog X.w td t) := by
  refine ⟨fun pins s σ H Q I h => ?_⟩
  refine wpAny_Call_method hb hf hl PySem.F.plainAttrs_dict PySem.F.slot_dict_setdefault PySem.F.type_dict_setdefault (thn (ho.run pins s σ H _ I h) fun u s1 z1 => ?_)
  obtain ⟨x, H1, I1, rx, a, kvs0, ex, g0, q1⟩ := z1
  subst ex
  obtain rfl : u = Value.ref a := rx
  refine ⟨nv_type I1.hok g0, nv_bare I1.hok g0, callWith_method1 (thn (ha.run cpos pins s1 σ H1 _ I1 q1) fun us s2 z2 => ?_) hst hpl⟩
  obtain ⟨xs, H2, I2, rs, b, z, kvs, k, exs, g, kk, kb, dp, few, q2, q3⟩ := z2
  subst exs
  cases rs with
  | @cons _ u1 _ _ r1 r2 =>
  cases r2 with
  | @cons _ u2 _ _ r3 r4 =>
  cases r4
  obtain rfl : u1 = Value.ref b := r1
  obtain ⟨zz, hd, xs, r, dd⟩ := nv_at I2.hok g kk
  have hz : xs.length ≤ sizeLine := by rw [← NW.len r]; exact zz
  refine call_setdefault_heap (hsz := hz) (knd := nestedKind X.prog X.w) (show X.A.in1.units + 8 < cLine by rw [Around.in1_units]; omega) (kb.is dp I2.hok) hd dd (fun y hy => ?_) (fun hn h' dd' hs => ?_)
  · have rl := NW.look r k
    rw [hy] at rl
    cases q : lookV kvs k with
    | none => rw [q] at rl; exact rl.elim
    | some v =>
      rw [q] at rl
      exact ⟨v, H2, I2.tok _, rl, q2 v q⟩
  · have hn2 : lookV kvs k = none := by
      have := NW.some_iff r k
      rw [hn] at this
      cases q : lookV kvs k with
      | none => rfl
      | some v => rw [q] at this; cases this
    exact ⟨z, _, nv_stored I2 g hd r r3 few dd' hs, r3, q3 hn2⟩
theorem pe_nvals (ho : PE X o td) (hb : attributeBase o "values" X.env (eval o X.env) = eval o X.env := by rfl) (hl : (apos.endLine == cpos.line) = true := by rfl) : PE X (.Call (.Attribute o "values" apos) [] [] cpos) (tNVals X.prog X.w td) := by
  refine ⟨fun pins s σ H Q I h => ?_⟩
  refine wpAny_Call_method hb rfl hl PySem.F.plainAttrs_dict PySem.F.slot_dict_values PySem.F.type_dict_values (thn (ho.run pins s σ H _ I h) fun u s1 z1 => ?_)
  obtain ⟨x, H1, I1, rx, a, kvs, ex, g, q1⟩ := z1
  subst ex
  obtain rfl : u = Value.ref a := rx
  have hn := I1.hok.fresh (Nat.le_refl s1.heap.objs.size)
  obtain ⟨z, y, xs, r, ob, es, ep, h1, h2, h3, h4, h5⟩ := (I1.hok a _ g).1
  refine ⟨nv_type I1.hok g, nv_bare I1.hok g, callWith_method0 (call_meetsIn PySem.F.slot_dict_values (nv_type I1.hok g) PySem.F.entry_dict_values (PySem.F.args_dict_values_1 _) (meets_dict_values_raw a y) ⟨⟨es, ep, ob, h1, h2, h3⟩, ?_⟩)⟩
  refine ⟨.ref s1.heap.objs.size, _, I1.laid (a := s1.heap.objs.size) (o := VwO s1.heap.objs.size a) (t' := s1.toks) (fun _ _ q => Heap.get?_push_of_some _ q) (Nat.le_refl _) ?_, rfl, q1 _ hn⟩
  refine ⟨⟨_, Heap.get?_push_size _ rfl, rfl, rfl⟩, ⟨_, Heap.get?_push_size _ rfl⟩, fun h1 h2 p k => ?_⟩
  obtain ⟨o, g1, g2⟩ := p
  exact ⟨o, k _ g1, g2⟩
theorem cr_listVw (hh : X.A.handled = none) : CallR X (.type "list") (rListVw X.prog X.w) := by
  rintro pins s σ H xs us Q I rs ⟨q, a, kvs, exs, hq, g, q1⟩
  subst exs
  cases rs with
  | @cons _ u1 _ _ r1 r2 =>
  cases r2
  obtain rfl : u1 = Value.ref q := r1
  have hn := I.hok.fresh (Nat.le_refl s.heap.objs.size)
  obtain ⟨z, y, xs, r, ob, es, ep, h1, h2, h3, h4, h5⟩ := (I.hok a _ g).1
  have vw := (I.hok q _ hq).1
  have en : es.size = xs.length := by
    have := congrArg List.length h4
    rw [List.length_map, Array.length_toList] at this
    exact this
  have len := NW.len r
  refine W.kdl_call (KdlSrc.rawValues (es := es) (ep := ep) (d := a)) hh ⟨vw, ob, h1, h2, h3⟩ (by omega) fun h' tk acc c st hl it => ?_
  have ea : acc.toList = xs.map (·.2.2) := by
    refine List.ext_getElem? fun j => ?_
    rw [Array.getElem?_toList, List.getElem?_map]
    cases hj : acc[j]? with
    | none =>
      have : xs[j]? = none := by
        rw [List.getElem?_eq_none_iff]
        have := Array.getElem?_eq_none_iff.mp hj
        have := it.1
        omega
      rw [this]; rfl
    | some v =>
      obtain ⟨hi, rfl⟩ := it.2 j v hj
      have hx := List.getElem?_eq_getElem (l := xs) (i := j) (by omega)
      have e2 : es.toList[j]? = (xs.map (entryOfKey (nestedKind X.prog X.w)))[j]? := by rw [h4]
      rw [List.getElem?_map, hx, Array.getElem?_toList, Array.getElem?_eq_getElem hi] at e2
      rw [hx]
      have e2 := Option.some.inj e2
      rw [e2]
      rfl
  refine ⟨.ref s.heap.objs.size, _, I.laid (a := s.heap.objs.size) (o := .lst (kvs.map (·.2.2))) (t' := tk) st (Nat.le_refl _) ?_, rfl, q1 _ hn⟩
  refine ⟨by rw [List.length_map]; exact z, acc.toList, c, by rw [ea]; exact r.vals, by rw [hl]⟩
end
end Mine
namespace Mine
open PySem PySem.Spec PyProof.Rows L2
open Evl (Ex)
/-! what is walked is a list or a tuple -/
def iOr (w1 w2 : TI) : TI := fun σ H R => w1 σ H R ∨ w2 σ H R
theorem pi_or {X : Cx} {tg l : Expr} {w1 w2 : TI} (h1 : PI X tg l w1) (h2 : PI X tg l w2) : PI X tg l (iOr w1 w2) :=
  ⟨fun pins s σ H R I h => h.elim (h1.run pins s σ H R I) (h2.run pins s σ H R I)⟩
def SqA (K : PySem.W.Frag) (H : Hp) (a : Addr) (xs : List V) : Prop := SqL K H a xs ∨ SqT K H a xs
theorem SqA.ex {K : PySem.W.Frag} {H H' : Hp} {a : Addr} {xs : List V} (h : SqA K H a xs) (e : Ex H H') : SqA K H' a xs := h.elim (fun h => Or.inl (Evl.ex_l e h)) fun h => Or.inr (Evl.ex_t e h)
theorem iOr_for {K : PySem.W.Frag} {te : TE} {g : TG} {tb : TS} {D : Ends} {σ : L2.St} {H H0 : Hp} {a : Addr} {xs : List V} (hv : ∀ k : VK, k (.ref a) H → te σ H k) (hS : SqA K H0 a xs) (e0 : Ex H0 H) (Pv : Nat → L2.St → Hp → Prop) (h0 : Pv 0 σ H) (hl : ∀ i σ' H', i ≤ xs.length → Pv i σ' H' → Ex H0 H')
    (hs : ∀ i x σ' H', xs[i]? = some x → Pv i σ' H' → g x σ' H' fun σ2 H2 => tb { D with nx := Pv (i + 1), ct := Pv (i + 1), bk := D.nx } σ2 H2) (hd : ∀ σ' H', Pv xs.length σ' H' → D.nx σ' H') : iOr (iList K te) (iTup K te) σ H (fun it H => forK g tb D σ it H) := by
  rcases hS with hS | hS
  · exact Or.inl (hv _ ⟨a, rfl, ⟨_, Evl.ex_l e0 hS⟩, forK_list Pv h0 (fun i σ' H' l p => Evl.ex_l (hl i σ' H' l p) hS) hs hd⟩)
  · exact Or.inr (hv _ ⟨a, rfl, ⟨_, Evl.ex_t e0 hS⟩, forK_tup Pv h0 (fun i σ' H' l p => Evl.ex_t (hl i σ' H' l p) hS) hs hd⟩)
theorem iOr_lc {K : PySem.W.Frag} {ti : TE} {g : TG} {tt : TT} {te : TE} {vs : List Nat} {Q : VK} {σ : L2.St} {H : Hp} {a : Addr} {xs : List V} (hv : ∀ k : VK, k (.ref a) H → ti σ H k) (hS : SqA K H a xs) (f : V → Option V) (len : xs.length < sizeLine) (t : ∀ x ∈ xs, turnR g tt te vs σ x (f x) H)
    (q : ∀ D H', H D = none → Ex H H' → H' D = some (.lst (xs.filterMap f)) → Q (.ref D) H') : iOr (iList K ti) (iTup K ti) σ H (fun it H => lcR g tt te vs σ Q it H) := by
  rcases hS with hS | hS
  · exact Or.inl (hv _ ⟨a, rfl, ⟨_, hS⟩, lcR_list f hS len t q⟩)
  · exact Or.inr (hv _ ⟨a, rfl, ⟨_, hS⟩, lcR_tup f hS len t q⟩)
/-! what never changes -/
def Fx : HO → Prop
  | .tup _ => True
  | .ins _ _ _ => True
  | _ => False
theorem upd_fx {H : Hp} {d : Addr} {o0 o1 : HO} (hd : H d = some o0) (n : ¬ Fx o0) : ∀ c o, H c = some o → Fx o → upd H d o1 c = some o := fun c o z f => (upd_ne (fun e => by subst e; rw [hd] at z; cases z; exact n f)).trans z
theorem EdAt.fx {H H' : Hp} {y : V} {e : Edge} (h : EdAt H y e) (k : ∀ c o, H c = some o → Fx o → H' c = some o) : EdAt H' y e := let ⟨a, r, z⟩ := h; ⟨a, r, k _ _ z True.intro⟩
theorem HgAt.fx {K : PySem.W.Frag} {H H' : Hp} {b : Addr} {es : List Edge} (h : HgAt K H b es) (k : ∀ c o, H c = some o → Fx o → H' c = some o) : HgAt K H' b es :=
  let ⟨dx, t, xs, h1, h2, h3⟩ := h; ⟨dx, t, xs, k _ _ h1 True.intro, k _ _ h2 True.intro, h3.imp fun y c q => q.fx k⟩
theorem DuH.fx {H H' : Hp} {y : V} {es : List Edge} (h : DuH H y es) (k : ∀ c o, H c = some o → Fx o → H' c = some o) : DuH H' y es :=
  let ⟨d, t, xs, r, h1, h2, h3⟩ := h; ⟨d, t, xs, r, k _ _ h1 True.intro, k _ _ h2 True.intro, h3.imp fun y c q => q.fx k⟩
/-- a value that is a board -/
def HgV (K : PySem.W.Frag) (H : Hp) (y : V) (es : List Edge) : Prop := ∃ b, y = .ref b ∧ HgAt K H b es
theorem HgV.ex {K : PySem.W.Frag} {H H' : Hp} {y : V} {es : List Edge} (h : HgV K H y es) (e : Ex H H') : HgV K H' y es := let ⟨b, r, z⟩ := h; ⟨b, r, z.ex e⟩
theorem HgV.fx {K : PySem.W.Frag} {H H' : Hp} {y : V} {es : List Edge} (h : HgV K H y es) (k : ∀ c o, H c = some o → Fx o → H' c = some o) : HgV K H' y es := let ⟨b, r, z⟩ := h; ⟨b, r, z.fx k⟩
abbrev BsH (K : PySem.W.Frag) (H : Hp) (ys : List V) (l : List (List Edge)) : Prop := AllAt (HgV K) H ys l
abbrev DsH (H : Hp) (ys : List V) (l : List (List Edge)) : Prop := AllAt DuH H ys l
/-! the knots that hang, and what is left -/
open Classical in
theorem hang_keptM {es : List Edge} {k : Nat} (h : Hangs es k) : Hangs (keptE es) k := by
  have in_ : ∀ e : Edge, e ∈ es → Hangs es e.1 → e ∈ keptE es := fun e m z => by
    unfold keptE
    exact List.mem_filter.mpr ⟨m, decide_eq_true z⟩
  induction h with
  | ground => exact .ground
  | up m z ih => exact .up (in_ _ m z) ih
  | down m z ih => exact .down (in_ _ m (.down m z)) ih
theorem kept_okM {es : List Edge} (ok : ∀ e ∈ es, OkE e) : ∀ e ∈ keptE es, OkE e := fun e m => ok e (by unfold keptE at m; exact (List.mem_filter.mp m).1)
theorem kept_lenM (es : List Edge) : (keptE es).length ≤ es.length := by unfold keptE; exact List.length_filter_le _ _
open Classical in
theorem kept_keptM (es : List Edge) : keptE (keptE es) = keptE es := by
  have h : ∀ e ∈ keptE es, Hangs (keptE es) e.1 := fun e m => by
    unfold keptE at m
    exact hang_keptM (of_decide_eq_true (List.mem_filter.mp m).2)
  generalize keptE es = l at *
  unfold keptE
  exact List.filter_eq_self.mpr fun e m => decide_eq_true (h e m)
/-! moves -/
def oneC (s : Str) : Str := if s = "left" then "blue" else "red"
def colH (s c : Str) : Bool := decide (c = "green") || decide (c = oneC s)
noncomputable def cutE (es : List Edge) (i : Nat) : List Edge := keptE (es.eraseIdx i)
open Classical in
noncomputable def stepM (s : Str) (es : List Edge) (acc : List (List Edge)) (i : Nat) : List (List Edge) :=
  if (es[i]?.map fun e => colH s e.2.2) = some true then (if cutE es i ∈ acc then acc else acc ++ [cutE es i]) else acc
noncomputable def mvsTo (s : Str) (es : List Edge) : Nat → List (List Edge)
  | 0 => []
  | n + 1 => stepM s es (mvsTo s es n) n
noncomputable def mvsE (s : Str) (es : List Edge) : List (List Edge) := mvsTo s es es.length
theorem step_in {s : Str} {es : List Edge} {acc : List (List Edge)} {i : Nat} {e : Edge} (h : es[i]? = some e) (c : colH s e.2.2 = true) (m : cutE es i ∈ acc) : stepM s es acc i = acc := by
  unfold stepM
  rw [h, Option.map_some, c, if_pos rfl, if_pos m]
theorem step_new {s : Str} {es : List Edge} {acc : List (List Edge)} {i : Nat} {e : Edge} (h : es[i]? = some e) (c : colH s e.2.2 = true) (m : cutE es i ∉ acc) : stepM s es acc i = acc ++ [cutE es i] := by
  unfold stepM
  rw [h, Option.map_some, c, if_pos rfl, if_neg m]
theorem step_no {s : Str} {es : List Edge} {acc : List (List Edge)} {i : Nat} {e : Edge} (h : es[i]? = some e) (c : colH s e.2.2 = false) : stepM s es acc i = acc := by
  unfold stepM
  rw [h, Option.map_some, c, if_neg (by decide)]
theorem step_or (s : Str) (es : List Edge) (acc : List (List Edge)) (i : Nat) : stepM s es acc i = acc ∨ stepM s es acc i = acc ++ [cutE es i] := by
  unfold stepM
  split
  · split
    · exact Or.inl rfl
    · exact Or.inr rfl
  · exact Or.inl rfl
theorem mvsTo_len (s : Str) (es : List Edge) : ∀ n, (mvsTo s es n).length ≤ n
  | 0 => Nat.le_refl _
  | n + 1 => by
    have ih := mvsTo_len s es n
    unfold mvsTo
    rcases step_or s es (mvsTo s es n) n with h | h <;> rw [h]
    · omega
    · rw [List.length_append, List.length_singleton]; omega
theorem mvsTo_mem {s : Str} {es : List Edge} {m : List Edge} : ∀ {n}, m ∈ mvsTo s es n → ∃ i, i < n ∧ m = cutE es i
  | 0, h => nomatch h
  | n + 1, h => by
    unfold mvsTo at h
    rcases step_or s es (mvsTo s es n) n with z | z <;> rw [z] at h
    · obtain ⟨i, hi, r⟩ := mvsTo_mem h
      exact ⟨i, by omega, r⟩
    · rcases List.mem_append.mp h with h | h
      · obtain ⟨i, hi, r⟩ := mvsTo_mem h
        exact ⟨i, by omega, r⟩
      · exact ⟨n, by omega, List.mem_singleton.mp h⟩
theorem mvsE_mem {s : Str} {es m : List Edge} (ok : ∀ e ∈ es, OkE e) (h : m ∈ mvsE s es) : (∀ e ∈ m, OkE e) ∧ m.length < es.length ∧ keptE m = m := by
  obtain ⟨i, hi, rfl⟩ := mvsTo_mem h
  unfold cutE
  refine ⟨kept_okM fun e m => ok e (List.mem_of_mem_eraseIdx m), ?_, kept_keptM _⟩
  have := kept_lenM (es.eraseIdx i)
  rw [List.length_eraseIdx, if_pos hi] at this
  omega
theorem mvsE_len (s : Str) (es : List Edge) : (mvsE s es).length ≤ es.length := mvsTo_len s es es.length
theorem mvsTo_mono {s : Str} {es : List Edge} : ∀ {n m : Nat}, n ≤ m → (mvsTo s es n).length ≤ (mvsTo s es m).length := by
  intro n m h
  induction h with
  | refl => exact Nat.le_refl _
  | @step m h ih =>
    show _ ≤ (stepM s es (mvsTo s es m) m).length
    rcases step_or s es (mvsTo s es m) m with z | z <;> rw [z]
    · exact ih
    · rw [List.length_append]; omega
/-- one side can move where there is an edge -/
theorem some_move {es : List Edge} (ok : ∀ e ∈ es, OkE e) (h1 : (mvsE "left" es).length = 0) (h2 : (mvsE "right" es).length = 0) : es.length = 0 := by
  cases es with
  | nil => rfl
  | cons e es =>
    exfalso
    have one : ∀ s, colH s e.2.2 = true → (mvsE s (e :: es)).length ≠ 0 := by
      intro s c
      have q := mvsTo_mono (s := s) (es := e :: es) (n := 1) (m := (e :: es).length) (by rw [List.length_cons]; omega)
      have z : mvsTo s (e :: es) 1 = [cutE (e :: es) 0] := step_new (acc := []) (i := 0) rfl c (by intro m; cases m)
      rw [z] at q
      have q : 1 ≤ (mvsE s (e :: es)).length := q
      omega
    rcases (ok e List.mem_cons_self).2.2 with c | c | c
    · exact one "left" (by rw [c]; decide +kernel) h1
    · exact one "left" (by rw [c]; decide +kernel) h1
    · exact one "right" (by rw [c]; decide +kernel) h2
/-! edges as data -/
def edQ (e : Edge) : PyData := .tuple [.int (e.1 : Int), .int (e.2.1 : Int), .str e.2.2]
def dueQ (es : List Edge) : PyData := .tuple [.str "hedge", .tuple (es.map edQ)]
theorem EdAt.dq {K : PySem.W.Frag} {H : Hp} {y : V} {c : Edge} (h : EdAt H y c) : Dp K H y (edQ c) := by
  obtain ⟨a, rfl, ha⟩ := h
  exact .tup (k_st ha) (.cons (.int _) (.cons (.int _) (.cons (.str _) .nil)))
theorem EsAt.dq {K : PySem.W.Frag} {H : Hp} : ∀ {xs : List V} {cs : List Edge}, EsAt H xs cs → DpAll K H xs (cs.map edQ)
  | [], [], _ => .nil
  | y :: ys, r :: rs, h => .cons h.tail.1.dq (EsAt.dq h.tail.2)
  | [], _ :: _, h => absurd h.1 (by simp)
  | _ :: _, [], h => absurd h.1 (by simp)
theorem DuH.dq {K : PySem.W.Frag} {H : Hp} {y : V} {es : List Edge} (h : DuH H y es) : Dp K H y (dueQ es) := by
  obtain ⟨d, t, xs, rfl, hd, ht, R⟩ := h
  exact .tup (k_st hd) (.cons (.str _) (.cons (.tup (k_st ht) R.dq) .nil))
theorem DsH.dq {K : PySem.W.Frag} {H : Hp} : ∀ {xs : List V} {cs : List (List Edge)}, DsH H xs cs → DpAll K H xs (cs.map dueQ)
  | [], [], _ => .nil
  | y :: ys, r :: rs, h => .cons h.tail.1.dq (DsH.dq h.tail.2)
  | [], _ :: _, h => absurd h.1 (by simp)
  | _ :: _, [], h => absurd h.1 (by simp)
theorem deepQ (e : Edge) : (edQ e).depth = 1 := by
  unfold edQ
  simp only [PyData.depth, PyData.depthAll]; rfl
theorem col_strQ {s : Str} (h : OkC3 s) : PyData.strOk s = true := by
  rcases h with rfl | rfl | rfl <;> decide +kernel
theorem layQ {e : Edge} (h : OkE e) : (edQ e).canLay0 = true := by
  unfold edQ
  simp only [PyData.canLay0, PyData.canLayAll0, col_strQ h.2.2]; rfl
theorem eqvQ (e d : Edge) : (edQ e).eqv (edQ d) = decide (e = d) := by
  obtain ⟨a, b, c⟩ := e
  obtain ⟨a', b', c'⟩ := d
  unfold edQ
  simp only [PyData.eqv, PyData.eqvAll, Bool.and_true]
  by_cases h1 : a = a' <;> by_cases h2 : b = b' <;> by_cases h3 : c = c' <;> simp [h1, h2, h3]
  all_goals omega
theorem eqvQs : ∀ as bs : List Edge, PyData.eqvAll (as.map edQ) (bs.map edQ) = decide (as = bs)
  | [], [] => by simp only [List.map_nil, PyData.eqvAll]; rfl
  | a :: as, b :: bs => by
    simp only [List.map_cons, PyData.eqvAll, eqvQs as bs, eqvQ]
    by_cases h1 : a = b <;> by_cases h2 : as = bs <;> simp [h1, h2]
  | [], b :: bs => by simp [PyData.eqvAll]
  | a :: as, [] => by simp [PyData.eqvAll]
theorem eqvD (as bs : List Edge) : (dueQ as).eqv (dueQ bs) = decide (as = bs) := by
  unfold dueQ
  simp only [PyData.eqv, PyData.eqvAll, eqvQs, Bool.and_true]
  by_cases h : as = bs <;> simp [h]
theorem deepQs : ∀ rs : List Edge, PyData.depthAll (rs.map edQ) ≤ 1
  | [] => by simp only [List.map_nil, PyData.depthAll]; decide
  | g :: rs => by
    have h := deepQs rs
    simp only [List.map_cons, PyData.depthAll, deepQ]
    omega
theorem layQs : ∀ rs : List Edge, (∀ e ∈ rs, OkE e) → PyData.canLayAll0 (rs.map edQ) = true
  | [], _ => rfl
  | g :: rs, h => by
    simp only [List.map_cons, PyData.canLayAll0, layQ (h g List.mem_cons_self), layQs rs fun r m => h r (List.mem_cons_of_mem _ m)]
    rfl
theorem deepD (rs : List Edge) : (dueQ rs).depth ≤ 3 := by
  have h := deepQs rs
  unfold dueQ
  simp only [PyData.depth, PyData.depthAll]
  omega
theorem layD {rs : List Edge} (h : ∀ e ∈ rs, OkE e) : (dueQ rs).canLay0 = true := by
  unfold dueQ
  simp only [PyData.canLay0, PyData.canLayAll0, layQs rs h, show PyData.strOk "hedge" = true by decide +kernel]
  rfl
theorem shapedD {rs : List Edge} (h : ∀ e ∈ rs, OkE e) : SeqAt.shaped (dueQ rs) = true := by
  have := deepD rs
  unfold SeqAt.shaped
  rw [layD h, decide_eq_true (by omega)]
  rfl
theorem deepDs : ∀ rs : List (List Edge), PyData.depthAll (rs.map dueQ) ≤ 3
  | [] => by simp only [List.map_nil, PyData.depthAll]; decide
  | g :: rs => by
    have h := deepDs rs
    have := deepD g
    simp only [List.map_cons, PyData.depthAll]
    omega
theorem layDs : ∀ rs : List (List Edge), (∀ l ∈ rs, ∀ e ∈ l, OkE e) → PyData.canLayAll0 (rs.map dueQ) = true
  | [], _ => rfl
  | g :: rs, h => by
    simp only [List.map_cons, PyData.canLayAll0, layD (h g List.mem_cons_self), layDs rs fun r m => h r (List.mem_cons_of_mem _ m)]
    rfl
theorem shapedDs {rs : List (List Edge)} (h : ∀ l ∈ rs, ∀ e ∈ l, OkE e) : SeqAt.shaped (.list (rs.map dueQ)) = true := by
  have hd : (PyData.list (rs.map dueQ)).depth ≤ 64 := by
    have := deepDs rs
    simp only [PyData.depth]; omega
  have hl : (PyData.list (rs.map dueQ)).canLay0 = true := by simp only [PyData.canLay0]; exact layDs rs h
  unfold SeqAt.shaped
  rw [hl, decide_eq_true hd]
  rfl
theorem k_notInDu {K : PySem.W.Frag} {H : Hp} {Q : VK} {y : V} {a : Addr} {ys : List V} {es : List Edge} {l : List (List Edge)} (h1 : DuH H y es) (h2 : SqL K H a ys) (R : DsH H ys l) (ok1 : ∀ e ∈ es, OkE e) (ok : ∀ l' ∈ l, ∀ e ∈ l', OkE e) (q : ∀ b : Bool, (b = true ↔ es ∉ l) → Q (.bl b) H) : rNotInD K y (.ref a) H Q := by
  refine ⟨_, _, h1.dq, .lst h2 R.dq, shapedD ok1, shapedDs ok, q _ ?_⟩
  rw [Bool.not_eq_true', ← Bool.not_eq_true, List.any_eq_true]
  refine not_congr ⟨?_, fun m => ⟨_, List.mem_map.mpr ⟨_, m, rfl⟩, by rw [eqvD]; exact decide_eq_true rfl⟩⟩
  rintro ⟨z, m, e⟩
  obtain ⟨l', m', rfl⟩ := List.mem_map.mp m
  rw [eqvD] at e
  rw [← of_decide_eq_true e]
  exact m'
/-! edges as keys -/
def edK (e : Edge) : NestedKey := .tup [.num (e.1 : Int), .num (e.2.1 : Int), .text e.2.2]
def keyH (es : List Edge) : NestedKey := .tup [.text "hedge", .tup (es.map edK)]
theorem edK_inj {a b : Edge} (h : edK a = edK b) : a = b := by
  obtain ⟨a1, a2, a3⟩ := a
  obtain ⟨b1, b2, b3⟩ := b
  unfold edK at h
  simp only [NestedKey.tup.injEq, List.cons.injEq, NestedKey.num.injEq, NestedKey.text.injEq, and_true] at h
  obtain ⟨h1, h2, h3⟩ := h
  have h1 : a1 = b1 := by omega
  have h2 : a2 = b2 := by omega
  subst h1 h2 h3
  rfl
theorem keyH_inj {a b : List Edge} (h : keyH a = keyH b) : a = b := by
  unfold keyH at h
  simp only [NestedKey.tup.injEq, List.cons.injEq, and_true, true_and] at h
  exact (List.map_inj_right fun _ _ => edK_inj).mp h
theorem edK_deep (l : List Edge) : NestedKey.depthAll (l.map edK) ≤ 1 := by
  induction l with
  | nil => rw [List.map_nil]; simp only [NestedKey.depthAll]; decide
  | cons e l ih =>
    rw [List.map_cons]
    unfold edK at *
    simp only [NestedKey.depthAll, NestedKey.depth] at *
    omega
theorem keyH_deep (l : List Edge) : (keyH l).depth ≤ 8 := by
  have := edK_deep l
  unfold keyH
  simp only [NestedKey.depth, NestedKey.depthAll]
  omega
theorem EsAt.keys {H : Hp} : ∀ {xs : List V} {cs : List Edge}, EsAt H xs cs → KeyVs H (cs.map edK) xs
  | [], [], _ => .nil
  | y :: ys, r :: rs, h => by
    obtain ⟨⟨a, rfl, ha⟩, t⟩ := h.tail
    exact .cons (.tup ha (.cons (.num _) (.cons (.num _) (.cons (.text _) .nil)))) (EsAt.keys t)
  | [], _ :: _, h => absurd h.1 (by simp)
  | _ :: _, [], h => absurd h.1 (by simp)
theorem DuH.key {H : Hp} {y : V} {es : List Edge} (h : DuH H y es) : ∃ d, y = .ref d ∧ KeyV H (keyH es) (.ref d) := by
  obtain ⟨d, t, xs, rfl, hd, ht, R⟩ := h
  exact ⟨d, rfl, .tup hd (.cons (.text _) (.cons (.tup ht R.keys) .nil))⟩
theorem look_keys {kvs : List NE} {acc : List (List Edge)} (h : kvs.map (·.1) = acc.map keyH) (m : List Edge) : lookV kvs (keyH m) = none ↔ m ∉ acc := by
  unfold lookV
  rw [Option.map_eq_none_iff, List.find?_eq_none]
  constructor
  · intro z q
    have : keyH m ∈ kvs.map (·.1) := by rw [h]; exact List.mem_map.mpr ⟨m, q, rfl⟩
    obtain ⟨e, me, ee⟩ := List.mem_map.mp this
    exact z e me (decide_eq_true ee)
  · intro q e me z
    have : e.1 ∈ acc.map keyH := by rw [← h]; exact List.mem_map.mpr ⟨e, me, rfl⟩
    obtain ⟨m', mm, ee⟩ := List.mem_map.mp this
    rw [of_decide_eq_true z] at ee
    rw [keyH_inj ee] at mm
    exact q mm
/-- the tables of colours -/
structure FCUTS (K : PySem.W.Frag) : Prop where
  l : PySem.W.nsIn K (He.ga K "CUTS") "left" = some (some (.ref (kdA K "CUTS" "left"))) ∧ ∀ H, SqT K H (kdA K "CUTS" "left") [.str "blue", .str "green"]
  r : PySem.W.nsIn K (He.ga K "CUTS") "right" = some (some (.ref (kdA K "CUTS" "right"))) ∧ ∀ H, SqT K H (kdA K "CUTS" "right") [.str "red", .str "green"]
theorem eqV_str (d s : Str) : eqV (V.str d) (V.str s) = decide (s = d) := decide_eq_decide.mpr ⟨fun h => h.symm, fun h => h.symm⟩
theorem cuts_in (s c : Str) : inV (V.str c) [.str (oneC s), .str "green"] = colH s c := by
  show (eqV (V.str (oneC s)) (V.str c) || (eqV (V.str "green") (V.str c) || false)) = _
  rw [eqV_str, eqV_str, Bool.or_false, Bool.or_comm]
  rfl
theorem cuts_in2 (s c : Str) : inV (V.str c) [.str "green", .str (oneC s)] = colH s c := by
  show (eqV (V.str "green") (V.str c) || (eqV (V.str (oneC s)) (V.str c) || false)) = _
  rw [eqV_str, eqV_str, Bool.or_false]
  rfl
theorem putV_new {kvs : List NE} {k : NestedKey} {b : Addr} {v : V} (h : lookV kvs k = none) : putV kvs k b v = kvs ++ [(k, b, v)] := by
  unfold putV
  rw [h]
  rfl
theorem k_nsetd {P : Program} {w : World} {td : TE} {t : TA} {σ : L2.St} {H : Hp} {Q : VK} (q : td σ H fun x H1 => ∃ a kvs0, x = V.ref a ∧ H1 a = some (NvO P w a kvs0) ∧ t σ H1 fun xs H2 => ∃ b z kvs k, xs = [.ref b, z] ∧ H2 a = some (NvO P w a kvs) ∧ KeysV H2 kvs ∧ KeyV H2 k (.ref b) ∧ k.depth ≤ 8 ∧ kvs.length < sizeLine ∧
  (∀ v, lookV kvs k = some v → Q v H2) ∧ (lookV kvs k = none → Q z (upd H2 a (NvO P w a (putV kvs k b z))))) : tNSetd P w td t σ H Q := q
theorem k_nvals {P : Program} {w : World} {td : TE} {σ : L2.St} {H : Hp} {Q : VK} (q : td σ H fun x H1 => ∃ a kvs, x = V.ref a ∧ H1 a = some (NvO P w a kvs) ∧ ∀ q, H1 q = none → Q (.ref q) (upd H1 q (VwO q a))) : tNVals P w td σ H Q := q
theorem erase_at {H : Hp} {ys : List V} {es : List Edge} (R : EsAt H ys es) (i : Nat) : EsAt H (ys.take i ++ ys.drop (i + 1)) (es.eraseIdx i) := by
  rw [List.eraseIdx_eq_take_drop_succ]
  exact (AllAt.take R i).app (AllAt.drop R (i + 1))
end Mine
namespace Mine
open PySem PySem.Spec PyProof.Rows L2
open Evl (Ex)
/-! the parts of a hedge -/
def upE (es : List Edge) : List Edge := es.filter fun e => decide (e.1 ≠ 0) && decide (e.2.1 ≠ 0)
def nzK (e : Edge) : List Nat := [e.1, e.2.1].filter fun k => decide (k ≠ 0)
def Sn (es : List Edge) (e : Edge) : Nat → Prop := From (upE es) (nzK e)
def Tch (es : List Edge) (e q : Edge) : Prop := Sn es e q.1 ∨ Sn es e q.2.1
theorem mem_up {es : List Edge} {e : Edge} : e ∈ upE es ↔ e ∈ es ∧ e.1 ≠ 0 ∧ e.2.1 ≠ 0 := by
  unfold upE
  rw [List.mem_filter]
  simp
theorem mem_nz {e : Edge} {k : Nat} : k ∈ nzK e ↔ k ≠ 0 ∧ (k = e.1 ∨ k = e.2.1) := by
  unfold nzK
  rw [List.mem_filter]
  simp
  exact and_comm
theorem From.mono {es fs : List Edge} {st su : List Nat} (h1 : ∀ e ∈ es, e ∈ fs) (h2 : ∀ k ∈ st, k ∈ su) {k : Nat} (h : From es st k) : From fs su k := by
  induction h with
  | base m => exact .base (h2 _ m)
  | up m _ ih => exact .up (h1 _ m) ih
  | down m _ ih => exact .down (h1 _ m) ih
theorem sn_ne {es : List Edge} {e : Edge} {k : Nat} (h : Sn es e k) : k ≠ 0 := by
  cases h with
  | base m => exact (mem_nz.mp m).1
  | up m _ => exact (mem_up.mp m).2.2
  | down m _ => exact (mem_up.mp m).2.1
theorem sn_up {es : List Edge} {e q : Edge} (m : q ∈ es) (h1 : q.1 ≠ 0) (h2 : q.2.1 ≠ 0) : Sn es e q.1 ↔ Sn es e q.2.1 := ⟨fun h => .up (mem_up.mpr ⟨m, h1, h2⟩) h, fun h => .down (mem_up.mpr ⟨m, h1, h2⟩) h⟩
/-- where one end of an edge is, its ends above the ground are -/
theorem sn_ends {es : List Edge} {e q : Edge} (m : q ∈ es) (t : Tch es e q) : ∀ k ∈ nzK q, Sn es e k := by
  intro k hk
  obtain ⟨k0, hk⟩ := mem_nz.mp hk
  rcases t with t | t
  · rcases hk with rfl | rfl
    · exact t
    · exact (sn_up m (sn_ne t) k0).mp t
  · rcases hk with rfl | rfl
    · exact (sn_up m k0 (sn_ne t)).mpr t
    · exact t
/-- an own end is there -/
theorem tch_self {es : List Edge} {e : Edge} (h : nzK e ≠ []) : Tch es e e := by
  cases hn : nzK e with
  | nil => exact absurd hn h
  | cons k l =>
    have m : k ∈ nzK e := by rw [hn]; exact List.mem_cons_self
    obtain ⟨_, r | r⟩ := mem_nz.mp m
    · exact Or.inl (r ▸ From.base m)
    · exact Or.inr (r ▸ From.base m)
theorem tch_nz {es : List Edge} {e q : Edge} (t : Tch es e q) : nzK q ≠ [] := by
  intro h
  rcases t with t | t
  · have := mem_nz.mpr ⟨sn_ne t, Or.inl rfl⟩
    rw [h] at this; cases this
  · have := mem_nz.mpr ⟨sn_ne t, Or.inr rfl⟩
    rw [h] at this; cases this
theorem sn_nz {es : List Edge} {e : Edge} {k : Nat} (h : Sn es e k) : nzK e ≠ [] := by
  intro z
  unfold Sn at h
  rw [z] at h
  exact From.ind (S := fun _ => False) (fun k m => (List.not_mem_nil m)) (fun e _ => Iff.rfl) h
/-- what is closed and holds a knot that is reached holds the beginning -/
theorem sn_back {es : List Edge} {e : Edge} (me : e ∈ es) {k : Nat} (h : Sn es e k) : ∀ T : Nat → Prop, (∀ q ∈ upE es, T q.1 ↔ T q.2.1) → T k → ∀ x ∈ nzK e, T x := by
  induction h with
  | base m =>
    intro T hc hk x hx
    obtain ⟨x0, hx⟩ := mem_nz.mp hx
    obtain ⟨k0, hm⟩ := mem_nz.mp m
    rcases hx with rfl | rfl <;> rcases hm with rfl | rfl
    · exact hk
    · exact (hc e (mem_up.mpr ⟨me, x0, k0⟩)).mpr hk
    · exact (hc e (mem_up.mpr ⟨me, k0, x0⟩)).mp hk
    · exact hk
  | up m _ ih => exact fun T hc hk => ih T hc ((hc _ m).mpr hk)
  | down m _ ih => exact fun T hc hk => ih T hc ((hc _ m).mp hk)
/-- edges that touch have the same knots -/
theorem sn_eq {es : List Edge} {e q : Edge} (me : e ∈ es) (mq : q ∈ es) (t : Tch es e q) (k : Nat) : Sn es q k ↔ Sn es e k := by
  have cl : ∀ f : Edge, ∀ p ∈ upE es, Sn es f p.1 ↔ Sn es f p.2.1 := fun f p m => ⟨fun h => .up m h, fun h => .down m h⟩
  constructor
  · intro h
    exact From.ind (S := Sn es e) (sn_ends mq t) (cl e) h
  · intro h
    have key : ∃ x, Sn es e x ∧ Sn es q x := by
      rcases t with t | t
      · exact ⟨_, t, .base (mem_nz.mpr ⟨sn_ne t, Or.inl rfl⟩)⟩
      · exact ⟨_, t, .base (mem_nz.mpr ⟨sn_ne t, Or.inr rfl⟩)⟩
    obtain ⟨x, h1, h2⟩ := key
    exact From.ind (S := Sn es q) (sn_back me h1 (Sn es q) (cl q) h2) (cl q) h
/-! the places of a part -/
def InP (es : List Edge) (i p : Nat) : Prop := p = i ∨ ∃ e q, es[i]? = some e ∧ es[p]? = some q ∧ Tch es e q
open Classical in
noncomputable def togE (es : List Edge) (i : Nat) : List Nat := (List.range es.length).filter fun p => decide (InP es i p)
def pickE (es : List Edge) (ps : List Nat) : List Edge := ps.filterMap fun p => es[p]?
open Classical in
theorem mem_tog {es : List Edge} {i p : Nat} : p ∈ togE es i ↔ p < es.length ∧ InP es i p := by
  unfold togE
  rw [List.mem_filter, List.mem_range, decide_eq_true_iff]
theorem inP_same {es : List Edge} {i p : Nat} (h : InP es i p) (ip : p ≠ i) : ∃ e q, es[i]? = some e ∧ es[p]? = some q ∧ Tch es e q ∧ ∀ k, Sn es q k ↔ Sn es e k := by
  rcases h with rfl | ⟨e, q, he, hq, t⟩
  · exact absurd rfl ip
  · exact ⟨e, q, he, hq, t, sn_eq (List.mem_of_getElem? he) (List.mem_of_getElem? hq) t⟩
theorem inP_symm {es : List Edge} {i p : Nat} (h : InP es i p) : InP es p i := by
  by_cases ip : p = i
  · exact Or.inl ip.symm
  obtain ⟨e, q, he, hq, t, eq⟩ := inP_same h ip
  refine Or.inr ⟨q, e, hq, he, ?_⟩
  have nz : nzK e ≠ [] := by
    rcases t with t | t <;> exact sn_nz t
  rcases tch_self (es := es) nz with s | s
  · exact Or.inl ((eq _).mpr s)
  · exact Or.inr ((eq _).mpr s)
theorem inP_trans {es : List Edge} {i p r : Nat} (h1 : InP es i p) (h2 : InP es p r) : InP es i r := by
  by_cases ip : p = i
  · rw [← ip]; exact h2
  by_cases pr : r = p
  · rw [pr]; exact h1
  obtain ⟨e, q, he, hq, t, eq⟩ := inP_same h1 ip
  obtain ⟨q', x, hq', hx, t2, eq2⟩ := inP_same h2 pr
  rw [hq] at hq'
  cases hq'
  refine Or.inr ⟨e, x, he, hx, ?_⟩
  rcases t2 with s | s
  · exact Or.inl ((eq _).mp s)
  · exact Or.inr ((eq _).mp s)
open Classical in
theorem tog_eq {es : List Edge} {i p : Nat} (h : InP es i p) : togE es p = togE es i := by
  unfold togE
  refine List.filter_congr fun x _ => ?_
  exact decide_eq_decide.mpr ⟨fun z => inP_trans h z, fun z => inP_trans (inP_symm h) z⟩
/-- a part, one after another -/
noncomputable def ptStep (es : List Edge) (acc : List (List Nat) × List Nat) (i : Nat) : List (List Nat) × List Nat :=
  if i ∈ acc.2 then acc else (acc.1 ++ [togE es i], acc.2 ++ togE es i)
noncomputable def ptTo (es : List Edge) : Nat → List (List Nat) × List Nat
  | 0 => ([], [])
  | n + 1 => ptStep es (ptTo es n) n
noncomputable def partsE (es : List Edge) : List (List Edge) := (ptTo es es.length).1.map (pickE es)
theorem pt_in {es : List Edge} {acc : List (List Nat) × List Nat} {i : Nat} (h : i ∈ acc.2) : ptStep es acc i = acc := by unfold ptStep; rw [if_pos h]
theorem pt_out {es : List Edge} {acc : List (List Nat) × List Nat} {i : Nat} (h : i ∉ acc.2) : ptStep es acc i = (acc.1 ++ [togE es i], acc.2 ++ togE es i) := by unfold ptStep; rw [if_neg h]
structure PtOk (es : List Edge) (n : Nat) (acc : List (List Nat) × List Nat) : Prop where
  fl : acc.1.flatten = acc.2
  nd : acc.2.Nodup
  lt : ∀ p ∈ acc.2, p < es.length
  all : ∀ i, i < n → i ∈ acc.2
  cl : ∀ p ∈ acc.2, togE es p ∈ acc.1
  is : ∀ I ∈ acc.1, ∃ i, i < es.length ∧ I = togE es i
open Classical in
theorem pt_ok {es : List Edge} : ∀ {n : Nat}, n ≤ es.length → PtOk es n (ptTo es n)
  | 0, _ => ⟨rfl, List.nodup_nil, fun p m => absurd m List.not_mem_nil, fun i h => absurd h (Nat.not_lt_zero _), fun p m => absurd m List.not_mem_nil, fun I m => absurd m List.not_mem_nil⟩
  | n + 1, h => by
    have o := pt_ok (es := es) (n := n) (by omega)
    show PtOk es (n + 1) (ptStep es (ptTo es n) n)
    generalize ptTo es n = acc at *
    have mo : ∀ p ∈ acc.2, ∀ x ∈ togE es p, x ∈ acc.2 := fun p m x mx => by
      rw [← o.fl]
      exact List.mem_flatten.mpr ⟨_, o.cl p m, mx⟩
    by_cases z : n ∈ acc.2
    · rw [pt_in z]
      exact ⟨o.fl, o.nd, o.lt, fun i hi => (by rcases Nat.lt_or_ge i n with l | l; exact o.all i l; rw [show i = n by omega]; exact z), o.cl, o.is⟩
    · rw [pt_out z]
      have me : n ∈ togE es n := mem_tog.mpr ⟨by omega, Or.inl rfl⟩
      refine ⟨by rw [List.flatten_append, o.fl]; simp, ?_, fun p m => ?_, fun i hi => ?_, fun p m => ?_, fun I m => ?_⟩
      · refine List.nodup_append.mpr ⟨o.nd, ?_, fun a ma b mb => ?_⟩
        · unfold togE
          exact List.Nodup.sublist List.filter_sublist List.nodup_range
        · rintro rfl
          have hb := (mem_tog.mp mb).2
          exact z (mo a ma n (mem_tog.mpr ⟨by omega, inP_symm hb⟩))
      · rcases List.mem_append.mp m with m | m
        · exact o.lt p m
        · exact (mem_tog.mp m).1
      · rcases Nat.lt_or_ge i n with l | l
        · exact List.mem_append_left _ (o.all i l)
        · rw [show i = n by omega]; exact List.mem_append_right _ me
      · rcases List.mem_append.mp m with m | m
        · exact List.mem_append_left _ (o.cl p m)
        · rw [tog_eq (mem_tog.mp m).2]
          exact List.mem_append_right _ List.mem_cons_self
      · rcases List.mem_append.mp m with m | m
        · exact o.is I m
        · exact ⟨n, by omega, List.mem_singleton.mp m⟩
/-! the edges of a part -/
theorem pick_all (es : List Edge) : pickE es (List.range es.length) = es := by
  unfold pickE
  have : ∀ n, n ≤ es.length → (List.range n).filterMap (fun p => es[p]?) = es.take n := by
    intro n
    induction n with
    | zero => intro _; rfl
    | succ n ih =>
      intro h
      have hg := List.getElem?_eq_getElem (l := es) (i := n) (by omega)
      rw [List.range_succ, List.filterMap_append, ih (by omega), List.take_add_one, hg]
      simp [hg]
  rw [this _ (Nat.le_refl _), List.take_length]
theorem fm_congr {α β : Type} {f g : α → Option β} : ∀ {l : List α}, (∀ x ∈ l, f x = g x) → l.filterMap f = l.filterMap g
  | [], _ => rfl
  | a :: l, h => by
    rw [List.filterMap_cons, List.filterMap_cons, h a List.mem_cons_self, fm_congr fun x m => h x (List.mem_cons_of_mem _ m)]
theorem pick_filter (es : List Edge) (g : Nat → Bool) (f : Edge → Bool) (h : ∀ p e, es[p]? = some e → g p = f e) : pickE es ((List.range es.length).filter g) = es.filter f := by
  have e1 : es.filter f = (pickE es (List.range es.length)).filter f := by rw [pick_all]
  rw [e1]
  unfold pickE
  rw [List.filterMap_filter, List.filter_filterMap]
  refine fm_congr fun p m => ?_
  have hp := List.mem_range.mp m
  have hg := List.getElem?_eq_getElem (l := es) (i := p) hp
  rw [h p _ hg, hg]
  cases hf : f es[p] <;> simp [hf, Option.filter]
open Classical in
theorem part_nz {es : List Edge} {i : Nat} {e : Edge} (he : es[i]? = some e) (nz : nzK e ≠ []) : pickE es (togE es i) = es.filter fun q => decide (Tch es e q) := by
  unfold togE
  refine pick_filter es _ _ fun p q hq => ?_
  refine decide_eq_decide.mpr ⟨?_, fun t => Or.inr ⟨e, q, he, hq, t⟩⟩
  rintro (rfl | ⟨e', q', he', hq', t⟩)
  · rw [he] at hq
    cases hq
    exact tch_self nz
  · rw [he] at he'
    rw [hq] at hq'
    cases he'; cases hq'
    exact t
open Classical in
theorem tog_z {es : List Edge} {i : Nat} {e : Edge} (he : es[i]? = some e) (z : nzK e = []) : togE es i = [i] := by
  have hi := (List.getElem?_eq_some_iff.mp he).1
  have key : ∀ p, InP es i p → p = i := by
    rintro p (rfl | ⟨e', q, he', hq, t⟩)
    · rfl
    · rw [he] at he'
      cases he'
      exfalso
      rcases t with t | t <;> exact sn_nz t z
  have nd : (togE es i).Nodup := by
    unfold togE
    exact List.Nodup.sublist List.filter_sublist List.nodup_range
  have mi : i ∈ togE es i := mem_tog.mpr ⟨hi, Or.inl rfl⟩
  have all : ∀ x ∈ togE es i, x = i := fun x m => key x (mem_tog.mp m).2
  generalize togE es i = l at *
  match l, nd, mi, all with
  | [], _, mi, _ => exact absurd mi List.not_mem_nil
  | [a], _, _, all => rw [all a List.mem_cons_self]
  | a :: b :: l, nd, _, all =>
    have h1 := all a List.mem_cons_self
    have h2 := all b (List.mem_cons_of_mem _ List.mem_cons_self)
    rw [h1, h2] at nd
    exact absurd List.mem_cons_self (List.nodup_cons.mp nd).1
theorem part_z {es : List Edge} {i : Nat} {e : Edge} (he : es[i]? = some e) (z : nzK e = []) : pickE es (togE es i) = [e] := by
  rw [tog_z he z]
  unfold pickE
  rw [List.filterMap_cons, he]
  rfl
theorem part_mem {es : List Edge} {i : Nat} {e : Edge} (he : es[i]? = some e) : pickE es (togE es i) ∈ partsE es := by
  have hi := (List.getElem?_eq_some_iff.mp he).1
  have o := pt_ok (es := es) (Nat.le_refl _)
  exact List.mem_map.mpr ⟨_, o.cl i (o.all i hi), rfl⟩
theorem parts_is {es P : List Edge} (h : P ∈ partsE es) : ∃ i e, es[i]? = some e ∧ P = pickE es (togE es i) := by
  obtain ⟨I, mI, rfl⟩ := List.mem_map.mp h
  obtain ⟨i, hi, rfl⟩ := (pt_ok (es := es) (Nat.le_refl _)).is I mI
  exact ⟨i, _, List.getElem?_eq_getElem hi, rfl⟩
theorem pick_sub {es : List Edge} {ps : List Nat} {e : Edge} (h : e ∈ pickE es ps) : e ∈ es := by
  obtain ⟨p, _, h⟩ := List.mem_filterMap.mp h
  exact List.mem_of_getElem? h
/-! what is asked of the parts -/
theorem Hangs.mono {es fs : List Edge} (h : ∀ e ∈ es, e ∈ fs) {k : Nat} (z : Hangs es k) : Hangs fs k := by
  induction z with
  | ground => exact .ground
  | up m _ ih => exact .up (h _ m) ih
  | down m _ ih => exact .down (h _ m) ih
open Classical in
theorem kept_iff {es : List Edge} : keptE es = es ↔ ∀ e ∈ es, Hangs es e.1 := by
  unfold keptE
  rw [List.filter_eq_self]
  exact ⟨fun h e m => of_decide_eq_true (h e m), fun h e m => decide_eq_true (h e m)⟩
/-- where some edges are all that touch a part -/
theorem sn_hangs {es fs : List Edge} {e : Edge} (sub : ∀ q ∈ es, Tch es e q → q ∈ fs) {k : Nat} (h : Hangs es k) (hk : Sn es e k) : Hangs fs k := by
  induction h with
  | ground => exact .ground
  | @up q m _ ih =>
    have mf := sub q m (Or.inr hk)
    by_cases z : q.1 = 0
    · exact .up mf (by rw [z]; exact .ground)
    · exact .up mf (ih ((sn_up m z (sn_ne hk)).mpr hk))
  | @down q m _ ih =>
    have mf := sub q m (Or.inl hk)
    by_cases z : q.2.1 = 0
    · exact .down mf (by rw [z]; exact .ground)
    · exact .down mf (ih ((sn_up m (sn_ne hk) z).mp hk))
theorem tch_hangs {es fs : List Edge} (kp : keptE es = es) {e q : Edge} (sub : ∀ q ∈ es, Tch es e q → q ∈ fs) (m : q ∈ es) (t : Tch es e q) : Hangs fs q.1 := by
  by_cases z : q.1 = 0
  · rw [z]; exact .ground
  · have s : Sn es e q.1 := by
      rcases t with t | t
      · exact t
      · exact (sn_up m z (sn_ne t)).mpr t
    exact sn_hangs sub (kept_iff.mp kp q m) s
theorem nz_none {e : Edge} (h : nzK e = []) : e.1 = 0 := by
  refine Classical.byContradiction fun z => ?_
  have := mem_nz.mpr ⟨z, Or.inl (rfl : e.1 = e.1)⟩
  rw [h] at this
  exact List.not_mem_nil this
open Classical in
/-- A: a part hangs -/
theorem part_kept {es P : List Edge} (kp : keptE es = es) (h : P ∈ partsE es) : keptE P = P := by
  obtain ⟨i, e, he, rfl⟩ := parts_is h
  refine kept_iff.mpr fun q mq => ?_
  by_cases nz : nzK e = []
  · rw [part_z he nz] at mq ⊢
    rw [List.mem_singleton.mp mq, nz_none nz]; exact .ground
  · rw [part_nz he nz] at mq ⊢
    obtain ⟨m, t⟩ := List.mem_filter.mp mq
    exact tch_hangs kp (fun q m t => List.mem_filter.mpr ⟨m, decide_eq_true t⟩) m (of_decide_eq_true t)
theorem pick_len {es : List Edge} : ∀ {ps : List Nat}, (∀ p ∈ ps, p < es.length) → (pickE es ps).length = ps.length
  | [], _ => rfl
  | p :: ps, h => by
    have hg := List.getElem?_eq_getElem (l := es) (i := p) (h p List.mem_cons_self)
    unfold pickE
    rw [List.filterMap_cons, hg, List.length_cons, List.length_cons]
    exact congrArg (· + 1) (pick_len fun q m => h q (List.mem_cons_of_mem _ m))
/-- B: the parts are all -/
theorem parts_sum (es : List Edge) : ((partsE es).map List.length).sum = es.length := by
  have o := pt_ok (es := es) (Nat.le_refl _)
  unfold partsE
  generalize ptTo es es.length = acc at *
  have e1 : ∀ L : List (List Nat), (∀ p ∈ L.flatten, p < es.length) → ((L.map (pickE es)).map List.length).sum = L.flatten.length := by
    intro L
    induction L with
    | nil => intro _; rfl
    | cons I L ih =>
      intro h
      rw [List.flatten_cons] at h
      rw [List.map_cons, List.map_cons, List.sum_cons, List.flatten_cons, List.length_append, ih fun p m => h p (List.mem_append_right _ m), pick_len fun p m => h p (List.mem_append_left _ m)]
  rw [e1 _ (by rw [o.fl]; exact o.lt), o.fl]
  have a := nodup_len acc.2 (List.range es.length) o.nd fun x m => List.mem_range.mpr (o.lt x m)
  have b := nodup_len (List.range es.length) acc.2 List.nodup_range fun x m => o.all x (List.mem_range.mp m)
  rw [List.length_range] at a b
  omega
/-- what is enough of the edges reaches as far -/
theorem sn_part {es fs : List Edge} {e : Edge} (sub : ∀ q ∈ es, Tch es e q → q ∈ fs) {k : Nat} (h : Sn es e k) : Sn fs e k := by
  have key : ∀ {k : Nat}, From (upE es) (nzK e) k → From (upE es) (nzK e) k ∧ From (upE fs) (nzK e) k := by
    intro k h
    induction h with
    | base m => exact ⟨.base m, .base m⟩
    | up m _ ih =>
      obtain ⟨me, h1, h2⟩ := mem_up.mp m
      exact ⟨.up m ih.1, .up (mem_up.mpr ⟨sub _ me (Or.inl ih.1), h1, h2⟩) ih.2⟩
    | down m _ ih =>
      obtain ⟨me, h1, h2⟩ := mem_up.mp m
      exact ⟨.down m ih.1, .down (mem_up.mpr ⟨sub _ me (Or.inr ih.1), h1, h2⟩) ih.2⟩
  exact (key h).2
theorem sn_mono {es fs : List Edge} {e : Edge} (sub : ∀ q ∈ fs, q ∈ es) {k : Nat} (h : Sn fs e k) : Sn es e k := From.mono (fun q m => let ⟨a, b⟩ := mem_up.mp m; mem_up.mpr ⟨sub q a, b⟩) (fun _ m => m) h
open Classical in
theorem whole_parts {P : List Edge} (n : P ≠ []) (h : ∀ p, p < P.length → InP P 0 p) : partsE P = [P] := by
  have hl : 0 < P.length := List.length_pos_iff.mpr n
  have tg : togE P 0 = List.range P.length := by
    unfold togE
    exact List.filter_eq_self.mpr fun p m => decide_eq_true (h p (List.mem_range.mp m))
  have key : ∀ n, 0 < n → n ≤ P.length → ptTo P n = ([List.range P.length], List.range P.length) := by
    intro n
    induction n with
    | zero => intro h; exact absurd h (Nat.lt_irrefl _)
    | succ n ih =>
      intro _ hn
      show ptStep P (ptTo P n) n = _
      by_cases z : n = 0
      · subst z
        rw [pt_out (List.not_mem_nil), tg]
        rfl
      · rw [ih (by omega) (by omega), pt_in (List.mem_range.mpr (by omega))]
  unfold partsE
  rw [key _ hl (Nat.le_refl _), List.map_cons, pick_all]
  rfl
open Classical in
/-- C: a part has no parts but itself -/
theorem parts_part {es P : List Edge} (h : P ∈ partsE es) : partsE P = [P] := by
  obtain ⟨i, e, he, rfl⟩ := parts_is h
  by_cases nz : nzK e = []
  · rw [part_z he nz]
    refine whole_parts (by simp) fun p hp => ?_
    have : p = 0 := by
      have hp : p < 1 := hp
      omega
    exact Or.inl this
  · rw [part_nz he nz]
    have me := List.mem_of_getElem? he
    have mine : e ∈ es.filter fun q => decide (Tch es e q) := List.mem_filter.mpr ⟨me, decide_eq_true (tch_self nz)⟩
    have all : ∀ q ∈ es.filter fun q => decide (Tch es e q), q ∈ es ∧ Tch es e q := fun q m => let ⟨a, b⟩ := List.mem_filter.mp m; ⟨a, of_decide_eq_true b⟩
    have back : ∀ q ∈ es, Tch es e q → q ∈ es.filter fun q => decide (Tch es e q) := fun q m t => List.mem_filter.mpr ⟨m, decide_eq_true t⟩
    generalize (es.filter fun q => decide (Tch es e q)) = P at *
    refine whole_parts (fun z => by rw [z] at mine; exact List.not_mem_nil mine) fun p hp => ?_
    have h0 := List.getElem?_eq_getElem (l := P) (i := 0) (by omega)
    have h1 := List.getElem?_eq_getElem (l := P) (i := p) hp
    obtain ⟨mf, tf⟩ := all _ (List.mem_of_getElem? h0)
    obtain ⟨mq, tq⟩ := all _ (List.mem_of_getElem? h1)
    have eq := sn_eq me mf tf
    refine Or.inr ⟨_, _, h0, h1, ?_⟩
    have sub : ∀ q ∈ es, Tch es P[0] q → q ∈ P := fun q m t => back q m (by
      rcases t with t | t
      · exact Or.inl ((eq _).mp t)
      · exact Or.inr ((eq _).mp t))
    rcases tq with t | t
    · exact Or.inl (sn_part sub ((eq _).mpr t))
    · exact Or.inr (sn_part sub ((eq _).mpr t))
theorem filter_erase {es : List Edge} {f : Edge → Bool} {j : Nat} (h : ∀ e, es[j]? = some e → f e = false) : (es.eraseIdx j).filter f = es.filter f := by
  rw [List.eraseIdx_eq_take_drop_succ]
  cases hj : es[j]? with
  | none =>
    have l : es.length ≤ j := List.getElem?_eq_none_iff.mp hj
    rw [List.take_of_length_le l, List.drop_of_length_le (by omega), List.append_nil]
  | some e =>
    have hl := (List.getElem?_eq_some_iff.mp hj).1
    have e1 : es = es.take j ++ (e :: es.drop (j + 1)) := by
      have := List.take_append_drop j es
      rw [List.drop_eq_getElem_cons hl] at this
      rw [← (List.getElem?_eq_some_iff.mp hj).2]
      exact this.symm
    conv => rhs; rw [e1]
    rw [List.filter_append, List.filter_append, List.filter_cons, if_neg (by rw [h e hj]; decide)]
open Classical in
/-- D: a part without the edge that is cut stays a part -/
theorem part_stays {es : List Edge} (kp : keptE es = es) {i j : Nat} {e : Edge} (he : es[i]? = some e) (hj : j ∉ togE es i) (jl : j < es.length) : pickE es (togE es i) ∈ partsE (cutE es j) := by
  have nj : ¬ InP es i j := fun h => hj (mem_tog.mpr ⟨jl, h⟩)
  have ij : i ≠ j := fun h => nj (Or.inl h.symm)
  have me := List.mem_of_getElem? he
  have mer : e ∈ es.eraseIdx j := by
    rw [List.mem_eraseIdx_iff_getElem?]
    exact ⟨i, ij, he⟩
  have sub1 : ∀ q ∈ es.eraseIdx j, q ∈ es := fun q m => List.mem_of_mem_eraseIdx m
  have sub2 : ∀ q ∈ cutE es j, q ∈ es := fun q m => sub1 q (by unfold cutE keptE at m; exact (List.mem_filter.mp m).1)
  by_cases nz : nzK e = []
  · rw [part_z he nz]
    have mm : e ∈ cutE es j := by
      unfold cutE keptE
      exact List.mem_filter.mpr ⟨mer, decide_eq_true (by rw [nz_none nz]; exact .ground)⟩
    obtain ⟨i', hi'⟩ := List.getElem?_of_mem mm
    rw [← part_z hi' nz]
    exact part_mem hi'
  · have er : (es.eraseIdx j).filter (fun q => decide (Tch es e q)) = es.filter fun q => decide (Tch es e q) := by
      refine filter_erase fun q hq => decide_eq_false fun t => nj (Or.inr ⟨e, q, he, hq, t⟩)
    have sub3 : ∀ q ∈ es, Tch es e q → q ∈ es.eraseIdx j := fun q m t => by
      have : q ∈ es.filter fun q => decide (Tch es e q) := List.mem_filter.mpr ⟨m, decide_eq_true t⟩
      rw [← er] at this
      exact (List.mem_filter.mp this).1
    have hangs : ∀ q ∈ es, Tch es e q → Hangs (es.eraseIdx j) q.1 := fun q m t => tch_hangs kp sub3 m t
    have sub4 : ∀ q ∈ es, Tch es e q → q ∈ cutE es j := fun q m t => by
      unfold cutE keptE
      exact List.mem_filter.mpr ⟨sub3 q m t, decide_eq_true (hangs q m t)⟩
    have cu : (cutE es j).filter (fun q => decide (Tch es e q)) = es.filter fun q => decide (Tch es e q) := by
      rw [← er]
      unfold cutE keptE
      rw [List.filter_filter]
      refine List.filter_congr fun q m => ?_
      by_cases t : Tch es e q
      · rw [decide_eq_true t, decide_eq_true (hangs q (sub1 q m) t)]; rfl
      · rw [decide_eq_false t]; rfl
    have mm := sub4 e me (tch_self nz)
    obtain ⟨i', hi'⟩ := List.getElem?_of_mem mm
    have eqv : ∀ q, Tch (cutE es j) e q ↔ Tch es e q := by
      intro q
      constructor
      · rintro (t | t)
        · exact Or.inl (sn_mono sub2 t)
        · exact Or.inr (sn_mono sub2 t)
      · rintro (t | t)
        · exact Or.inl (sn_part sub4 t)
        · exact Or.inr (sn_part sub4 t)
    have : pickE es (togE es i) = pickE (cutE es j) (togE (cutE es j) i') := by
      rw [part_nz he nz, part_nz hi' nz, ← cu]
      refine List.filter_congr fun q _ => ?_
      exact decide_eq_decide.mpr (eqv q).symm
    rw [this]
    exact part_mem hi'
theorem few_with (j : Nat) : ∀ L : List (List Nat), (L.filter fun I => decide (j ∈ I)).length ≤ L.flatten.count j
  | [] => Nat.le_refl _
  | I :: L => by
    have h := few_with j L
    rw [List.flatten_cons, List.count_append, List.filter_cons]
    by_cases z : j ∈ I
    · rw [if_pos (decide_eq_true z), List.length_cons]
      have := List.count_pos_iff.mpr z
      omega
    · rw [if_neg (by simpa using z)]
      omega
theorem filter_le {α : Type} {f g : α → Bool} : ∀ {l : List α}, (∀ x ∈ l, f x = true → g x = true) → (l.filter f).length ≤ (l.filter g).length
  | [], _ => Nat.le_refl _
  | a :: l, h => by
    have ih := filter_le (f := f) (g := g) (l := l) fun x m => h x (List.mem_cons_of_mem _ m)
    rw [List.filter_cons, List.filter_cons]
    by_cases z : f a = true
    · rw [if_pos z, if_pos (h a List.mem_cons_self z), List.length_cons, List.length_cons]; omega
    · rw [if_neg z]
      split
      · rw [List.length_cons]; omega
      · exact ih
open Classical in
theorem others_stay {es : List Edge} (kp : keptE es = es) {s : Str} {m : List Edge} (h : m ∈ mvsE s es) : ((partsE es).filter fun P => decide (P ∉ partsE m)).length ≤ 1 := by
  obtain ⟨j, jl, rfl⟩ := mvsTo_mem h
  have o := pt_ok (es := es) (Nat.le_refl _)
  have st : ∀ I ∈ (ptTo es es.length).1, decide (pickE es I ∉ partsE (cutE es j)) = true → decide (j ∈ I) = true := by
    intro I mI z
    obtain ⟨i, hi, rfl⟩ := o.is I mI
    refine decide_eq_true (Classical.byContradiction fun nj => ?_)
    exact of_decide_eq_true z (part_stays kp (List.getElem?_eq_getElem hi) nj jl)
  have c1 : ((ptTo es es.length).1.filter fun I => decide (j ∈ I)).length ≤ 1 := by
    refine Nat.le_trans (few_with j _) ?_
    rw [o.fl]
    exact List.nodup_iff_count.mp o.nd j
  unfold partsE
  rw [List.filter_map, List.length_map]
  exact Nat.le_trans (filter_le st) c1
/-! edges that are kept -/
theorem EdAt.one {H : Hp} {v : V} {c d : Edge} (h1 : EdAt H v c) (h2 : EdAt H v d) : c = d := by
  obtain ⟨a, rfl, h1⟩ := h1
  obtain ⟨b, eb, h2⟩ := h2
  injection eb with eb
  subst eb
  rw [h1] at h2
  injection h2 with h2
  injection h2 with h2
  obtain ⟨c1, c2, c3⟩ := c
  obtain ⟨d1, d2, d3⟩ := d
  simp only [List.cons.injEq, V.int.injEq, V.str.injEq, and_true] at h2
  obtain ⟨q1, q2, q3⟩ := h2
  have q1 : c1 = d1 := by omega
  have q2 : c2 = d2 := by omega
  subst q1 q2 q3
  rfl
open Classical in
noncomputable def keepG (H : Hp) (f : Edge → Bool) (v : V) : Option V := if ∃ e, EdAt H v e ∧ f e = true then some v else none
theorem keepG_at {H : Hp} {f : Edge → Bool} {v : V} {e : Edge} (h : EdAt H v e) : keepG H f v = if f e = true then some v else none := by
  unfold keepG
  by_cases z : f e = true
  · rw [if_pos z, if_pos ⟨e, h, z⟩]
  · rw [if_neg z, if_neg]
    rintro ⟨e', h', z'⟩
    rw [EdAt.one h h'] at z
    exact z z'
theorem keepG_es {H : Hp} {f : Edge → Bool} : ∀ {xs : List V} {es : List Edge}, EsAt H xs es → EsAt H (xs.filterMap (keepG H f)) (es.filter f)
  | [], [], _ => .nil
  | x :: xs, e :: es, h => by
    obtain ⟨h1, h2⟩ := h.tail
    have ih := keepG_es (f := f) h2
    rw [List.filterMap_cons, keepG_at h1, List.filter_cons]
    by_cases z : f e = true
    · rw [if_pos z, if_pos z]
      exact AllAt.app (xs := [x]) (cs := [e]) (.one h1) ih
    · rw [if_neg z, if_neg z]
      exact ih
  | [], _ :: _, h => absurd h.1 (by simp)
  | _ :: _, [], h => absurd h.1 (by simp)
section
variable {g : TG} {tt : TT} {te : TE} {vs : List Nat} {σ : L2.St} {Q : VK} {H1 : Hp} {K : PySem.W.Frag}
theorem lcR_enumT {a : Addr} {xs : List V} (f : Nat → V → Option V) (hS : SqT K H1 a xs) (len : xs.length < sizeLine) (t : ∀ (i : Nat) (x : V) (T : Addr) (H' : Hp), xs[i]? = some x → Ex H1 H' → H' T = some (.tup [.int (i : Nat), x]) → turnR g tt te vs σ (.ref T) (f i x) H')
    (q : ∀ D H', H1 D = none → Ex H1 H' → H' D = some (.lst ((List.range xs.length).filterMap fun i => (xs[i]?).bind (f i))) → Q (.ref D) H') : lcR g tt te vs σ Q (IteT K a) H1 := by
  intro D hD
  refine ⟨fun i m H => i ≤ xs.length ∧ m = xs.length - i ∧ Ex H1 H ∧ H D = some (.lst ((List.range i).filterMap fun i => (xs[i]?).bind (f i))), ⟨xs.length, Nat.zero_le _, rfl, Evl.Ex.new hD, upd_same⟩, ?_⟩
  rintro i m H ⟨hi, rfl, e, hd⟩
  have hq := Evl.ex_t e hS
  rcases Nat.lt_or_ge i xs.length with h | h
  · refine Or.inr ⟨⟨xs, xs[i], hq, List.getElem?_eq_getElem h⟩, fun H' => Ex H1 H' ∧ H' D = some (.lst ((List.range (i + 1)).filterMap fun i => (xs[i]?).bind (f i))), fun H' p => ⟨xs.length - (i + 1), by omega, by omega, rfl, p⟩, ?_⟩
    rintro v H' ⟨T, x, rfl, hT, rfl, hx⟩
    have hx := hx xs hq
    have eT : Ex H (upd H T (.tup [.int (i : Nat), x])) := Evl.Ex.new hT
    have hd' := eT _ _ hd
    have rs : (List.range (i + 1)).filterMap (fun i => (xs[i]?).bind (f i)) = (List.range i).filterMap (fun i => (xs[i]?).bind (f i)) ++ (f i x).toList := by
      rw [List.range_succ, List.filterMap_append, List.filterMap_cons, hx]
      cases h : f i x <;> simp [h]
    refine t i x T _ hx (e.trans eT) upd_same _ (Evl.Ex.refl _) (fun o' H4 => match o' with | some y => ∃ acc, H4 D = some (.lst acc) ∧ acc.length < sizeLine ∧ (Ex H1 (upd H4 D (.lst (acc ++ [y]))) ∧ upd H4 D (.lst (acc ++ [y])) D = some (.lst ((List.range (i + 1)).filterMap fun i => (xs[i]?).bind (f i)))) | none => Ex H1 H4 ∧ H4 D = some (.lst ((List.range (i + 1)).filterMap fun i => (xs[i]?).bind (f i)))) fun H'' e2 => ?_
    rw [rs]
    have e3 := (e.trans eT).trans e2
    cases hf : f i x with
    | none => exact ⟨e3, by rw [e2 _ _ hd']; simp⟩
    | some y =>
      refine ⟨_, e2 _ _ hd', Nat.lt_of_le_of_lt (Nat.le_trans (List.length_filterMap_le _ _) (by rw [List.length_range]; omega)) len, Evl.Ex.mut e3 hD, upd_same⟩
  · have ei : i = xs.length := by omega
    subst ei
    exact Or.inl ⟨⟨xs, hq, Nat.le_refl _⟩, q D H hD e hd⟩
end
theorem pick_es {H : Hp} {xs : List V} {es : List Edge} (R : EsAt H xs es) : ∀ ps : List Nat, EsAt H (ps.filterMap fun p => xs[p]?) (pickE es ps)
  | [] => .nil
  | p :: ps => by
    have ih := pick_es R ps
    unfold pickE at ih ⊢
    rw [List.filterMap_cons, List.filterMap_cons]
    rcases Nat.lt_or_ge p es.length with h | h
    · have hc := List.getElem?_eq_getElem (l := es) (i := p) h
      obtain ⟨y, hy, at_⟩ := R.2 p _ hc
      rw [hc, hy]
      exact AllAt.app (xs := [y]) (cs := [es[p]]) (.one at_) ih
    · have xl := R.1
      rw [List.getElem?_eq_none_iff.mpr h, List.getElem?_eq_none_iff.mpr (show xs.length ≤ p by omega)]
      exact ih
open Classical in
theorem tog_len (es : List Edge) (i : Nat) : (togE es i).length ≤ es.length := by
  unfold togE
  have := List.length_filter_le (fun p => decide (InP es i p)) (List.range es.length)
  rw [List.length_range] at this
  exact this
/-- an item of a row by its place -/
def itemV (xs : List V) : V → Option V
  | .int p => xs[p.toNat]?
  | _ => none
theorem itemV_list (xs : List V) (ps : List Nat) : (ps.map fun p : Nat => V.int (p : Int)).filterMap (itemV xs) = ps.filterMap fun p => xs[p]? := by
  rw [List.filterMap_map]
  rfl
end Mine
namespace Mine
open PySem PySem.Spec PyProof.Rows L2
open Evl (Ex)
/-! a value tells its edges -/
theorem EsAt.one {H : Hp} : ∀ {xs : List V} {a b : List Edge}, EsAt H xs a → EsAt H xs b → a = b
  | [], [], [], _, _ => rfl
  | x :: xs, a :: as, b :: bs, h1, h2 => by
    obtain ⟨p1, q1⟩ := h1.tail
    obtain ⟨p2, q2⟩ := h2.tail
    rw [EdAt.one p1 p2, EsAt.one q1 q2]
  | [], _ :: _, _, h, _ => absurd h.1 (by simp)
  | [], [], _ :: _, _, h => absurd h.1 (by simp)
  | _ :: _, [], _, h, _ => absurd h.1 (by simp)
  | _ :: _, _ :: _, [], _, h => absurd h.1 (by simp)
theorem DuH.one {H : Hp} {v : V} {a b : List Edge} (h1 : DuH H v a) (h2 : DuH H v b) : a = b := by
  obtain ⟨d, t, xs, rfl, hd, ht, R⟩ := h1
  obtain ⟨d', t', xs', e, hd', ht', R'⟩ := h2
  injection e with e
  subst e
  rw [hd] at hd'
  injection hd' with hd'
  injection hd' with hd'
  simp only [List.cons.injEq, V.ref.injEq, and_true, true_and] at hd'
  subst hd'
  rw [ht] at ht'
  injection ht' with ht'
  injection ht' with ht'
  subst ht'
  exact EsAt.one R R'
theorem ghe_inj {t u : Addr} (h : ghe t = ghe u) : t = u := by
  have := congrArg (fun l : List (Str × V) => l.lookup ("_edges" : Str)) h
  rw [ghe_get, ghe_get] at this
  injection this with this
  injection this
theorem HgAt.one {K : PySem.W.Frag} {H : Hp} {b : Addr} {x y : List Edge} (h1 : HgAt K H b x) (h2 : HgAt K H b y) : x = y := by
  obtain ⟨dx, t, xs, hd, ht, R⟩ := h1
  obtain ⟨dx', t', xs', hd', ht', R'⟩ := h2
  rw [hd] at hd'
  injection hd' with hd'
  injection hd' with _ _ hd'
  have := ghe_inj hd'
  subst this
  rw [ht] at ht'
  injection ht' with ht'
  injection ht' with ht'
  subst ht'
  exact EsAt.one R R'
/-! values of boards -/
def ValOf (K : PySem.W.Frag) (x y : V) (H : Hp) : Prop := ∃ l, HgV K H x l ∧ DuH H y l
theorem fx_of {H H' : Hp} (k : ∀ c o, H c = some o → (∀ ys, o ≠ .lst ys) → H' c = some o) : ∀ c o, H c = some o → Fx o → H' c = some o := fun c o z f => k c o z fun ys e => by rw [e] at f; exact f
theorem valOf_lasts (K : PySem.W.Frag) : Lasts (ValOf K) := fun x y H H' ⟨l, h1, h2⟩ k => ⟨l, h1.fx (fx_of k), h2.fx (fx_of k)⟩
theorem HgV.one {K : PySem.W.Frag} {H : Hp} {v : V} {x y : List Edge} (h1 : HgV K H v x) (h2 : HgV K H v y) : x = y := by
  obtain ⟨b, rfl, h1⟩ := h1
  obtain ⟨c, e, h2⟩ := h2
  injection e with e
  subst e
  exact HgAt.one h1 h2
theorem vals_all {K : PySem.W.Frag} {H : Hp} {xs ys : List V} {ls : List (List Edge)} (B : BsH K H xs ls) (l : ys.length = xs.length) (h : ∀ (i : Nat) (x : V), xs[i]? = some x → ∃ y, ys[i]? = some y ∧ ValOf K x y H) : DsH H ys ls := by
  refine ⟨by rw [l]; exact B.1, fun i r hr => ?_⟩
  obtain ⟨x, hx, bx⟩ := B.2 i r hr
  obtain ⟨y, hy, l', h1, h2⟩ := h i x hx
  rw [HgV.one bx h1]
  exact ⟨y, hy, h2⟩
open Classical in
noncomputable def keepD (H : Hp) (f : List Edge → Bool) (v : V) : Option V := if ∃ l, DuH H v l ∧ f l = true then some v else none
theorem keepD_at {H : Hp} {f : List Edge → Bool} {v : V} {l : List Edge} (h : DuH H v l) : keepD H f v = if f l = true then some v else none := by
  unfold keepD
  by_cases z : f l = true
  · rw [if_pos z, if_pos ⟨l, h, z⟩]
  · rw [if_neg z, if_neg]
    rintro ⟨l', h', z'⟩
    rw [DuH.one h h'] at z
    exact z z'
theorem keepD_len {H : Hp} {f : List Edge → Bool} : ∀ {xs : List V} {ls : List (List Edge)}, DsH H xs ls → (xs.filterMap (keepD H f)).length = (ls.filter f).length
  | [], [], _ => rfl
  | x :: xs, l :: ls, h => by
    obtain ⟨h1, h2⟩ := h.tail
    have ih := keepD_len (f := f) h2
    rw [List.filterMap_cons, keepD_at h1, List.filter_cons]
    by_cases z : f l = true
    · rw [if_pos z, if_pos z, List.length_cons, List.length_cons, ih]
    · rw [if_neg z, if_neg z]
      exact ih
  | [], _ :: _, h => absurd h.1 (by simp)
  | _ :: _, [], h => absurd h.1 (by simp)
open Classical in
noncomputable def lenD (H : Hp) (v : V) : Option V := if h : ∃ l, DuH H v l then some (.int ((Classical.choose h).length : Int)) else none
theorem lenD_at {H : Hp} {v : V} {l : List Edge} (h : DuH H v l) : lenD H v = some (.int (l.length : Int)) := by
  unfold lenD
  have ex : ∃ l, DuH H v l := ⟨l, h⟩
  rw [dif_pos ex, DuH.one (Classical.choose_spec ex) h]
theorem lenD_list {H : Hp} : ∀ {xs : List V} {ls : List (List Edge)}, DsH H xs ls → xs.filterMap (lenD H) = ((ls.map List.length).map fun n : Nat => (n : Int)).map V.int
  | [], [], _ => rfl
  | x :: xs, l :: ls, h => by
    obtain ⟨h1, h2⟩ := h.tail
    rw [List.filterMap_cons, lenD_at h1, lenD_list h2]
    rfl
  | [], _ :: _, h => absurd h.1 (by simp)
  | _ :: _, [], h => absurd h.1 (by simp)
theorem sum_nat : ∀ l : List Nat, (l.map fun n : Nat => (n : Int)).sum = (l.sum : Int)
  | [] => rfl
  | a :: l => by
    rw [List.map_cons, List.sum_cons, List.sum_cons, sum_nat l]
    omega
theorem parts_ok {es P : List Edge} (ok : ∀ e ∈ es, OkE e) (h : P ∈ partsE es) : (∀ e ∈ P, OkE e) ∧ P.length ≤ es.length := by
  obtain ⟨i, e, he, rfl⟩ := parts_is h
  refine ⟨fun e m => ok e (pick_sub m), ?_⟩
  rw [pick_len fun p m => (mem_tog.mp m).1]
  exact tog_len es i
theorem partsE_len (es : List Edge) : (partsE es).length ≤ es.length := by
  have : ∀ n, (ptTo es n).1.length ≤ n := by
    intro n
    induction n with
    | zero => exact Nat.le_refl _
    | succ n ih =>
      show (ptStep es (ptTo es n) n).1.length ≤ _
      unfold ptStep
      split
      · omega
      · rw [List.length_append, List.length_singleton]; omega
  unfold partsE
  rw [List.length_map]
  exact this _
end Mine
namespace Mine
open PySem PySem.W
/-! a world whose one asked flag is written: the top's run in both cases -/
noncomputable def setF (w : World) (b : Bool) : World := { w with params := { w.params with followText := fun s => (Bool.rec (w.params.followText s) b (decide (s = "special-get-raises")) : Bool) } }
theorem setF_eq (w : World) : setF w (w.params.followText "special-get-raises") = w := by
  have e : (fun s => (Bool.rec (w.params.followText s) (w.params.followText "special-get-raises") (decide (s = "special-get-raises")) : Bool)) = w.params.followText := by
    funext s
    cases q : decide (s = "special-get-raises") with
    | false => rfl
    | true => rw [of_decide_eq_true q]
  unfold setF
  rw [e]
theorem bothF {p : World → Prop} (h0 : ∀ w, p (setF w false)) (h1 : ∀ w, p (setF w true)) (w : World) : p w := by
  rw [← setF_eq w]
  cases w.params.followText "special-get-raises"
  · exact h0 w
  · exact h1 w
end Mine
namespace Mine
open PySem PySem.Spec PyProof.Rows L2
open Evl (Ex)

local macro_rules | `(tactic| walk_at "mcond") => `(tactic| first
  | (show (0 : Int) < _; omega)
  | (show (0 : Int) ≤ _; omega)
  | (show CDiv _ _; exact ⟨by omega, by omega⟩)
  | (show CPow _ _; exact ⟨by omega, by omega, by omega⟩)
  | (show CMul _ _; exact Or.inl ⟨by omega, by omega⟩)
  | (show CMul _ _; exact Or.inr ⟨by omega, by omega⟩)
  | assumption)
local macro_rules | `(tactic| walk_at "mtr") => `(tactic| first
  | assumption
  | (refine tr_step (H := ?_) ?_ ?_; rotate_left; (focus assumption); walk_at "mtr"))
local macro_rules | `(tactic| walk_at "msq") => `(tactic| first
  | assumption
  | (refine k_sq ?_; walk_at "mtr")
  | (refine k_st ?_; walk_at "mtr")
  | exact Evl.ex_l (by first | assumption | solve_by_elim) (by assumption)
  | exact Evl.ex_t (by first | assumption | solve_by_elim) (by assumption))
local macro_rules | `(tactic| walk_at "mins") => `(tactic| walk_at "mtr")
local macro_rules | `(tactic| walk_at "mcls") => `(tactic| first | assumption | (apply FDyadic.cl; assumption))
local macro_rules | `(tactic| walk_at "mna") => `(tactic| first | assumption | (apply FDyadic.nt; assumption) | (apply FDyadic.np; assumption))
local macro_rules | `(tactic| walk_at "mlk") => `(tactic| first | assumption | exact dfs_top _ _ | exact dfs_power _ _)
local macro_rules | `(tactic| walk_at "mdy") => `(tactic| first
  | assumption
  | (refine dy_tr (H := ?_) ?_ ?_; rotate_left; (focus assumption); walk_at "mdy"))
local macro_rules | `(tactic| walk_at "mst") => `(tactic| first
  | with_reducible refine k_seq ?_
  | with_reducible refine k_asg ?_
  | ((with_reducible refine k_fldv (v := ?_) (fs := ?_) (C := ?_) (dx := ?_) (a := ?_) ?_ ?_ ?_ ?_ ?_ ?_); rotate_left 5; (focus exact rfl); (focus walk_at "mins"); (focus walk_at "mcls"); (focus walk_at "mna"); (focus walk_at "mlk"))
  | with_reducible refine k_name ?_
  | ((with_reducible refine k_var (v := ?_) ?_ ?_); rotate_left; (focus exact rfl))
  | with_reducible refine k_c ?_
  | with_reducible refine k_op ?_
  | with_reducible refine k_un ?_
  | with_reducible refine k_I0 ?_
  | with_reducible refine k_pow12 ?_
  | with_reducible refine k_pow18 ?_
  | with_reducible refine k_pow11 ?_
  | with_reducible refine k_pow9 ?_
  | with_reducible refine k_pow30 ?_
  | ((with_reducible refine k_shl1 ?_ ?_); (focus (constructor <;> omega)); intro _ _ _)
  | ((with_reducible refine k_minL ?_); intro _ _ _ _)
  | ((with_reducible refine k_maxL ?_); intro _ _ _ _)
  | ((with_reducible refine k_I ?_ ?_); (focus walk_at "mcond"))
  | with_reducible refine k_U ?_
  | with_reducible refine k_eqI ?_
  | with_reducible refine k_eqB ?_
  | with_reducible refine k_neI ?_
  | with_reducible refine k_isTy ?_
  | with_reducible refine k_isiII ?_
  | with_reducible refine k_isiIB ?_
  | with_reducible refine k_isiBB ?_
  | with_reducible refine k_isN ?_
  | with_reducible refine k_notN ?_
  | with_reducible refine k_chain ?_
  | with_reducible refine k_bl ?_
  | with_reducible refine k_test ?_
  | with_reducible refine k_B ?_
  | with_reducible refine k_and ?_
  | with_reducible refine k_or ?_
  | with_reducible refine k_not ?_
  | with_reducible refine k_if ?_
  | with_reducible refine k_ifS ?_
  | with_reducible refine k_andV ?_
  | with_reducible refine k_orV ?_
  | with_reducible refine k_notV ?_
  | with_reducible refine k_tup ?_
  | with_reducible refine k_lst ?_
  | with_reducible refine k_cb ?_
  | with_reducible refine k_nil ?_
  | with_reducible refine k_cons ?_
  | with_reducible refine k_rInt ?_
  | with_reducible refine k_rAbs ?_
  | with_reducible refine k_rMax ?_
  | with_reducible refine k_rMin ?_
  | ((with_reducible refine k_rLenL (ys := ?_) ?_ ?_); rotate_left; (focus walk_at "msq"))
  | ((with_reducible refine k_rLenT (ys := ?_) ?_ ?_); rotate_left; (focus walk_at "msq"))
  | with_reducible refine k_bm ?_
  | with_reducible refine k_bm0 ?_
  | ((with_reducible refine k_tyl (xs := ?_) ?_ ?_); rotate_left; (focus walk_at "msq"))
  | ((with_reducible refine k_rApp (xs := ?_) ?_ ?_ ?_); rotate_left; (focus walk_at "mtr"))
  | ((with_reducible refine dy_meth (t := ?_) (p := ?_) ?_ ?_ ?_ ?_); rotate_left 2; (focus walk_at "mdy"); (focus decide +kernel); (focus decide +kernel))
  | ((with_reducible refine dy_prop (t := ?_) (p := ?_) ?_ ?_); rotate_left 2; (focus walk_at "mdy"))
  | ((with_reducible refine dy_isC (t := ?_) (p := ?_) ?_ ?_); rotate_left 2; (focus walk_at "mdy"))
  | with_reducible refine k_call ?_
  | with_reducible refine k_meth ?_
  | with_reducible refine k_make ?_
  | with_reducible refine k_prop ?_
  | with_reducible refine k_ret ?_
  | with_reducible refine k_drop ?_
  | with_reducible refine k_next ?_
  | with_reducible refine k_for ?_
  | with_reducible refine k_rng1 ?_
  | with_reducible refine k_rng2 ?_
  | with_reducible refine k_ilist ?_
  | with_reducible refine k_itup ?_
  | with_reducible refine k_iteT ?_
  | with_reducible refine k_iteNT ?_
  | with_reducible refine k_iteNF ?_
  | with_reducible refine k_raise ?_
  | with_reducible refine k_iteF ?_
  | ((with_reducible refine k_ixT (xs := ?_) (v := ?_) ?_ ?_ ?_); rotate_left 2; (focus walk_at "msq"); (focus exact rfl))
  | with_reducible refine k_gnil ?_
  | with_reducible refine k_gcons ?_)
local macro_rules | `(tactic| walk_at "mcls") => `(tactic| first | assumption | (apply FYard.cl; assumption))
local macro_rules | `(tactic| walk_at "mna") => `(tactic| first | assumption | (apply FYard.nl; assumption) | (apply FYard.nr; assumption) | (apply FYard.nh; assumption) | (apply FYard.nn; assumption) | (apply FYard.nt; assumption))
local macro_rules | `(tactic| walk_at "mlk") => `(tactic| first | exact yfs_l _ | exact yfs_r _ | exact yfs_h _ | exact yfs_n _ | exact yfs_t _)
local macro_rules | `(tactic| walk_at "myd") => `(tactic| first
  | assumption
  | (refine YardAt.ex (H := ?_) ?_ ?_; rotate_right; (focus assumption); walk_at "myd"))
local macro_rules | `(tactic| walk_at "mst") => `(tactic| first
  | with_reducible refine k_sfl ?_
  | with_reducible refine k_lc ?_
  | with_reducible refine k_dnew ?_
  | with_reducible refine k_tru ?_
  | with_reducible refine k_rng3 ?_
  | with_reducible refine k_gsub ?_
  | with_reducible refine k_set1 ?_
  | with_reducible refine k_sadd ?_
  | with_reducible refine k_revL ?_
  | with_reducible refine k_nnot ?_
  | with_reducible refine k_nget ?_
  | with_reducible refine k_nput ?_
  | with_reducible refine k_dget ?_
  | with_reducible refine k_din ?_
  | with_reducible refine k_dnotin ?_
  | with_reducible refine k_dput ?_
  | with_reducible refine k_tsl ?_
  | with_reducible refine k_part ?_
  | with_reducible refine k_nopart ?_
  | with_reducible refine k_exi ?_
  | ((with_reducible refine k_rTupL (ys := ?_) ?_ ?_); rotate_left; (focus walk_at "msq"))
  | ((with_reducible refine k_rListL (ys := ?_) ?_ ?_); rotate_left; (focus walk_at "msq"))
  | ((with_reducible refine k_rListT (ys := ?_) ?_ ?_); rotate_left; (focus walk_at "msq"))
  | ((with_reducible refine k_in (ns := ?_) ?_ ?_); rotate_left; (focus walk_at "msq")))
def sp_law_digits (K : PySem.W.Frag) : Sp := fun vs H Q _ => ∃ (c : Int) (n : Nat), vs = [.int c, .int (n : Int)] ∧ n ≤ 1000 ∧ ∀ p H', H p = none → Ex H H' → H' p = some (.lst ((dgF c n).map V.int)) → Q (.ref p) H'
abbrev N_law_digits : List Str := ["cell", "count", "row", "k", "seed"]
def t_law_digits (K : PySem.W.Frag) (E : XK) : TS := (tSeq (tAsg (tLst tNil) (gName 2)) (tSeq (tIfS (tTest (tOp rGeI (tVar 0) (tOp rPowI (tC (.int 10)) (tC (.int 18))))) (tSeq (tFor (iRng1 (tCons (tVar 1) tNil)) (gName 3) (tSeq (tDrop (tBM K "list" rAppend (tVar 2) (tCons (tOp rModI (tCB rIntI (tCons (tVar 0) tNil)) (tC (.int 60))) tNil))) (tAsg (tOp rDivI (tVar 0) (tC (.int 60))) (gName 0)))) (tRet (tVar 2))) tNext) (tSeq (tAsg (tOp rModI (tCB rIntI (tCons (tOp rAddI (tOp rMulI (tVar 0) (tC (.int 48271))) (tC (.int 11))) tNil)) (tC (.int 2147483647))) (gName 4)) (tSeq (tFor (iRng1 (tCons (tVar 1) tNil)) (gName 3) (tSeq (tAsg (tOp rModI (tCB rIntI (tCons (tOp rAddI (tOp rAddI (tOp rMulI (tVar 4) (tC (.int 69621))) (tOp rMulI (tC (.int 7)) (tVar 3))) (tC (.int 1))) tNil)) (tC (.int 2147483629))) (gName 4)) (tDrop (tBM K "list" rAppend (tVar 2) (tCons (tOp rModI (tCB rIntI (tCons (tOp rDivI (tVar 4) (tC (.int 64))) tNil)) (tC (.int 60))) tNil))))) (tRet (tVar 2))))))
theorem len_law_digits {K : PySem.W.Frag} {vs : List V} {H : Hp} {Q : VK} {E : XK} (h : sp_law_digits K vs H Q E) : vs.length = 2 := by
  obtain ⟨_, _, rfl, _⟩ := h; rfl
theorem map_more (ds : List Int) (z : Int) : ds.map V.int ++ [V.int z] = (ds ++ [z]).map V.int := by simp
theorem pure_law_digits {K : PySem.W.Frag} (vs : List V) (H : Hp) (Q : VK) (E : XK) (h : sp_law_digits K vs H Q E) : t_law_digits K E { nx := fun _ H' => Q .non H', rt := Q } (start N_law_digits vs) H := by
  obtain ⟨c, n, rfl, h1, q⟩ := h
  unfold t_law_digits
  repeat walk_at "mst"
  refine ⟨by show 0 ≤ sizeLine; decide, fun p hp => ?_⟩
  repeat walk_at "mst"
  refine k_iteD (fun hc => ?_) (fun hc => ?_)
  · have e : dgF c n = (dgA c n).1 := by unfold dgF; rw [if_pos hc]
    rw [e] at q
    repeat walk_at "mst"
    refine ⟨_, rfl, by omega, by omega, ?_⟩
    rw [Int.toNat_natCast]
    refine forK_range (fun i σ H' => Ex H H' ∧ ∃ (v w : Option V), H' p = some (.lst ((dgA c i).1.map V.int)) ∧ σ = [some (.int (dgA c i).2), some (.int (n : Int)), some (.ref p), v, w]) ?_ ?_ ?_
    · exact ⟨Evl.Ex.new hp, none, none, upd_same, rfl⟩
    · rintro i σ H' hi ⟨e, v, w, hl, rfl⟩
      have l := dgA_len c i
      repeat walk_at "mst"
      · exact k_sizeL (by omega)
      repeat walk_at "mst"
      exact ⟨Evl.Ex.mut e hp, _, _, by rw [upd_same, map_more]; rfl, rfl⟩
    · rintro σ H' ⟨e, v, w, hl, rfl⟩
      repeat walk_at "mst"
      exact q p H' hp e hl
  · have e : dgF c n = (dgB c n).1 := by unfold dgF; rw [if_neg hc]
    rw [e] at q
    repeat walk_at "mst"
    refine ⟨_, rfl, by omega, by omega, ?_⟩
    rw [Int.toNat_natCast]
    refine forK_range (fun i σ H' => Ex H H' ∧ ∃ (v : Option V), H' p = some (.lst ((dgB c i).1.map V.int)) ∧ σ = [some (.int c), some (.int (n : Int)), some (.ref p), v, some (.int (dgB c i).2)]) ?_ ?_ ?_
    · exact ⟨Evl.Ex.new hp, _, upd_same, rfl⟩
    · rintro i σ H' hi ⟨e, v, hl, rfl⟩
      have l := dgB_len c i
      repeat walk_at "mst"
      · exact k_sizeL (by omega)
      repeat walk_at "mst"
      exact ⟨Evl.Ex.mut e hp, _, by rw [upd_same, map_more]; rfl, rfl⟩
    · rintro σ H' ⟨e, v, hl, rfl⟩
      repeat walk_at "mst"
      exact q p H' hp e hl
theorem use_digits {K : PySem.W.Frag} {H : Hp} {Q : VK} {E : XK} {c : Int} (n : Nat) (h : n ≤ 1000) (q : ∀ p H', H p = none → Ex H H' → H' p = some (.lst ((dgF c n).map V.int)) → Q (.ref p) H') : sp_law_digits K ([.int c, .int (n : Int)] ++ []) H Q E := ⟨c, n, rfl, h, q⟩
def reachD (ds : List Int) : Int := match (ds.getD 1 0 % 4).toNat with | 0 => 16 | 1 => 4 | 2 => 6 | _ => 3
def colD (n : Int) : Str := match (n % 3).toNat with | 0 => "blue" | 1 => "green" | _ => "red"
def grownD (ds : List Int) (k : Nat) : Prop := ds.getD 1 0 / 4 % 2 = 1 ∧ 0 < ds.getD (3 + 3 * k) 0 % 5
instance (ds : List Int) (k : Nat) : Decidable (grownD ds k) := inferInstanceAs (Decidable (_ ∧ _))
def oneD (ds : List Int) (k : Nat) : Int := if grownD ds k then ds.getD (2 + 3 * k) 0 % (min (k : Int) 14 + 1) else ds.getD (2 + 3 * k) 0 % reachD ds
def otherD (ds : List Int) (k : Nat) : Int := if grownD ds k then min (k : Int) 14 + 1 else ds.getD (3 + 3 * k) 0 % reachD ds
def edgeD (ds : List Int) (k : Nat) : Edge := if ds.getD (4 + 3 * k) 0 / 3 % 2 = 1 then ((otherD ds k).toNat, (oneD ds k).toNat, colD (ds.getD (4 + 3 * k) 0)) else ((oneD ds k).toNat, (otherD ds k).toNat, colD (ds.getD (4 + 3 * k) 0))
def edgesD (ds : List Int) : List Edge := (List.range (ds.getD 0 0 % 17).toNat).map (edgeD ds)
def edgesF (c : Int) : List Edge := edgesD (dgF c 50)
theorem reachD_in (ds : List Int) : 3 ≤ reachD ds ∧ reachD ds ≤ 16 := by
  unfold reachD
  split <;> decide
theorem oneD_in (ds : List Int) (k : Nat) : 0 ≤ oneD ds k ∧ oneD ds k ≤ 15 := by
  have r := reachD_in ds
  unfold oneD
  split
  · have a := Int.emod_nonneg (ds.getD (2 + 3 * k) 0) (b := min (k : Int) 14 + 1) (by omega)
    have b := Int.emod_lt_of_pos (ds.getD (2 + 3 * k) 0) (b := min (k : Int) 14 + 1) (by omega)
    omega
  · have a := Int.emod_nonneg (ds.getD (2 + 3 * k) 0) (b := reachD ds) (by omega)
    have b := Int.emod_lt_of_pos (ds.getD (2 + 3 * k) 0) (b := reachD ds) (by omega)
    omega
theorem otherD_in (ds : List Int) (k : Nat) : 0 ≤ otherD ds k ∧ otherD ds k ≤ 15 := by
  have r := reachD_in ds
  unfold otherD
  split
  · omega
  · have a := Int.emod_nonneg (ds.getD (3 + 3 * k) 0) (b := reachD ds) (by omega)
    have b := Int.emod_lt_of_pos (ds.getD (3 + 3 * k) 0) (b := reachD ds) (by omega)
    omega
theorem colD_ok (n : Int) : OkC3 (colD n) := by
  unfold colD
  split
  · exact Or.inl rfl
  · exact Or.inr (Or.inl rfl)
  · exact Or.inr (Or.inr rfl)
theorem edgesF_ok (c : Int) : (edgesF c).length ≤ 16 ∧ ∀ e ∈ edgesF c, OkE e := by
  unfold edgesF edgesD
  generalize dgF c 50 = ds
  refine ⟨by rw [List.length_map, List.length_range]; omega, fun e m => ?_⟩
  obtain ⟨k, _, rfl⟩ := List.mem_map.mp m
  have a := oneD_in ds k
  have b := otherD_in ds k
  unfold edgeD
  split
  · exact ⟨by show (otherD ds k).toNat ≤ 15; omega, by show (oneD ds k).toNat ≤ 15; omega, colD_ok _⟩
  · exact ⟨by show (oneD ds k).toNat ≤ 15; omega, by show (otherD ds k).toNat ≤ 15; omega, colD_ok _⟩
def sp_law_edges (K : PySem.W.Frag) : Sp := fun vs H Q _ => ∃ c : Int, vs = [.int c, .int 16] ∧ ∀ p ys H', H p = none → Ex H H' → H' p = some (.lst ys) → EsAt H' ys (edgesF c) → Q (.ref p) H'
local macro_rules | `(tactic| walk_at "new") => `(tactic| ((first | refine ⟨fits (Nat.le_of_ble_eq_true rfl), ?_⟩ | skip); intro p np; generalize hq : upd _ p _ = H1; have e1 := nx np hq; have s1 := nS hq; clear hq))
abbrev N_law_edges : List Str := ["cell", "most", "digits", "reach", "grown", "edges", "k", "one", "other"]
def t_law_edges (K : PySem.W.Frag) (E : XK) : TS := (tSeq (tAsg (tCall (sp_law_digits K) [] E0 (tCons (tVar 0) (tCons (tOp rAddI (tC (.int 2)) (tOp rMulI (tC (.int 3)) (tVar 1))) tNil))) (gName 2)) (tSeq (tAsg (tOp (rIxL K) (tLst (tCons (tC (.int 16)) (tCons (tC (.int 4)) (tCons (tC (.int 6)) (tCons (tC (.int 3)) tNil))))) (tOp rModI (tCB rIntI (tCons (tOp (rIxL K) (tVar 2) (tC (.int 1))) tNil)) (tC (.int 4)))) (gName 3)) (tSeq (tAsg (tOp rModI (tOp rDivI (tOp (rIxL K) (tVar 2) (tC (.int 1))) (tC (.int 4))) (tC (.int 2))) (gName 4)) (tSeq (tAsg (tLst tNil) (gName 5)) (tSeq (tFor (iRng1 (tCons (tOp rModI (tCB rIntI (tCons (tOp (rIxL K) (tVar 2) (tC (.int 0))) tNil)) (tOp rAddI (tVar 1) (tC (.int 1)))) tNil)) (gName 6) (tSeq (tAsg (tOp rModI (tCB rIntI (tCons (tOp (rIxL K) (tVar 2) (tOp rAddI (tC (.int 2)) (tOp rMulI (tC (.int 3)) (tVar 6)))) tNil)) (tVar 3)) (gName 7)) (tSeq (tAsg (tOp rModI (tCB rIntI (tCons (tOp (rIxL K) (tVar 2) (tOp rAddI (tC (.int 3)) (tOp rMulI (tC (.int 3)) (tVar 6)))) tNil)) (tVar 3)) (gName 8)) (Evl.tCut (tIfS (tAnd (tTest (tOp rEq (tVar 4) (tC (.int 1)))) (tTest (tOp rGtI (tOp rModI (tCB rIntI (tCons (tOp (rIxL K) (tVar 2) (tOp rAddI (tC (.int 3)) (tOp rMulI (tC (.int 3)) (tVar 6)))) tNil)) (tC (.int 5))) (tC (.int 0))))) (tSeq (tAsg (tOp rModI (tCB rIntI (tCons (tOp (rIxL K) (tVar 2) (tOp rAddI (tC (.int 2)) (tOp rMulI (tC (.int 3)) (tVar 6)))) tNil)) (tOp rAddI (tCB rMin2 (tCons (tVar 6) (tCons (tC (.int 14)) tNil))) (tC (.int 1)))) (gName 7)) (tAsg (tOp rAddI (tCB rMin2 (tCons (tVar 6) (tCons (tC (.int 14)) tNil))) (tC (.int 1))) (gName 8))) tNext) (tIfS (tTest (tOp rEq (tOp rModI (tOp rDivI (tCB rIntI (tCons (tOp (rIxL K) (tVar 2) (tOp rAddI (tC (.int 4)) (tOp rMulI (tC (.int 3)) (tVar 6)))) tNil)) (tC (.int 3))) (tC (.int 2))) (tC (.int 1)))) (tDrop (tBM K "list" rAppend (tVar 5) (tCons (tTup (tCons (tVar 8) (tCons (tVar 7) (tCons (tOp (rIxL K) (tLst (tCons (tC (.str "blue")) (tCons (tC (.str "green")) (tCons (tC (.str "red")) tNil)))) (tOp rModI (tCB rIntI (tCons (tOp (rIxL K) (tVar 2) (tOp rAddI (tC (.int 4)) (tOp rMulI (tC (.int 3)) (tVar 6)))) tNil)) (tC (.int 3)))) tNil)))) tNil))) (tDrop (tBM K "list" rAppend (tVar 5) (tCons (tTup (tCons (tVar 7) (tCons (tVar 8) (tCons (tOp (rIxL K) (tLst (tCons (tC (.str "blue")) (tCons (tC (.str "green")) (tCons (tC (.str "red")) tNil)))) (tOp rModI (tCB rIntI (tCons (tOp (rIxL K) (tVar 2) (tOp rAddI (tC (.int 4)) (tOp rMulI (tC (.int 3)) (tVar 6)))) tNil)) (tC (.int 3)))) tNil)))) tNil)))))))) (tRet (tVar 5)))))))
theorem len_law_edges {K : PySem.W.Frag} {vs : List V} {H : Hp} {Q : VK} {E : XK} (h : sp_law_edges K vs H Q E) : vs.length = 2 := by
  obtain ⟨_, rfl, _⟩ := h; rfl
theorem pure_law_edges {K : PySem.W.Frag} (vs : List V) (H : Hp) (Q : VK) (E : XK) (h : sp_law_edges K vs H Q E) : t_law_edges K E { nx := fun _ H' => Q .non H', rt := Q } (start N_law_edges vs) H := by
  obtain ⟨c, rfl, q⟩ := h
  unfold t_law_edges
  repeat walk_at "mst"
  refine use_digits 50 (by decide) fun dp H1 ndp e1 hd => ?_
  have hb := dgF_in c 50
  have hl := dgF_len c 50
  unfold edgesF at q
  generalize dgF c 50 = ds at *
  obtain ⟨d1, a1, b1, r1⟩ := dg_of hb (k := 1) (by decide) (by omega)
  obtain ⟨d0, a0, b0, r0⟩ := dg_of hb (k := 0) (by decide) (by omega)
  have r1 : d1 = ds.getD 1 0 := r1
  have r0 : d0 = ds.getD 0 0 := r0
  repeat walk_at "mst"
  walk_at "new"; rename_i sp nsp H2 e2 s2
  have hd2 := e2 _ _ hd
  repeat walk_at "mst"
  refine k_ixL (k_sq hd2) a1 ?_
  repeat walk_at "mst"
  have is : atI ([.int 16, .int 4, .int 6, .int 3] : List V) (d1 % 4) = some (.int (reachD ds)) := by
    unfold reachD
    rw [← r1]
    rcases (show d1 % 4 = 0 ∨ d1 % 4 = 1 ∨ d1 % 4 = 2 ∨ d1 % 4 = 3 by omega) with h | h | h | h <;> rw [h] <;> rfl
  refine k_ixL (k_sq s2) is ?_
  repeat walk_at "mst"
  refine k_ixL (k_sq hd2) a1 ?_
  repeat walk_at "mst"
  walk_at "new"; rename_i ep nep H3 e3 s3
  have hd3 := e3 _ _ hd2
  repeat walk_at "mst"
  refine k_ixL (k_sq hd3) a0 ?_
  repeat walk_at "mst"
  refine ⟨_, rfl, by omega, by omega, ?_⟩
  have rd := reachD_in ds
  have e13 := (e1.trans e2).trans e3
  have dep : dp ≠ ep := ne_of_none hd2 nep
  have nep0 : H ep = none := Evl.fresh_back (e1.trans e2) nep
  refine forK_range (fun i σ H' => ∃ (ys : List V) (x6 x7 x8 : Option V), Ex H H' ∧ H' dp = some (.lst (ds.map V.int)) ∧ H' ep = some (.lst ys) ∧ EsAt H' ys ((List.range i).map (edgeD ds)) ∧ σ = [some (.int c), some (.int 16), some (.ref dp), some (.int (reachD ds)), some (.int (d1 / 4 % 2)), some (.ref ep), x6, x7, x8]) ⟨[], none, none, none, e13, hd3, s3, .nil, rfl⟩ ?_ ?_
  · rintro i σ H4 hi ⟨ys, x6, x7, x8, e4, hd4, hy, es, rfl⟩
    have yl := es.1
    rw [List.length_map, List.length_range] at yl
    obtain ⟨z2, i2, b2, r2⟩ := dg_of hb (k := 2 + 3 * (i : Int)) (by omega) (by omega)
    obtain ⟨z3, i3, b3, r3⟩ := dg_of hb (k := 3 + 3 * (i : Int)) (by omega) (by omega)
    obtain ⟨z4, i4, b4, r4⟩ := dg_of hb (k := 4 + 3 * (i : Int)) (by omega) (by omega)
    rw [show (2 + 3 * (i : Int)).toNat = 2 + 3 * i by omega] at r2
    rw [show (3 + 3 * (i : Int)).toNat = 3 + 3 * i by omega] at r3
    rw [show (4 + 3 * (i : Int)).toNat = 4 + 3 * i by omega] at r4
    have h1 : oneD ds i = if grownD ds i then z2 % (min (i : Int) 14 + 1) else z2 % reachD ds := by unfold oneD; rw [← r2]
    have h2 : otherD ds i = if grownD ds i then min (i : Int) 14 + 1 else z3 % reachD ds := by unfold otherD; rw [← r3]
    have hg : grownD ds i ↔ (d1 / 4 % 2 = 1 ∧ 0 < z3 % 5) := by unfold grownD; rw [← r1, ← r3]
    have he : edgeD ds i = if z4 / 3 % 2 = 1 then ((otherD ds i).toNat, (oneD ds i).toNat, colD z4) else ((oneD ds i).toNat, (otherD ds i).toNat, colD z4) := by unfold edgeD; rw [← r4]
    have o1 := oneD_in ds i
    have o2 := otherD_in ds i
    have co : atI ([.str "blue", .str "green", .str "red"] : List V) (z4 % 3) = some (.str (colD z4)) := by
      unfold colD
      rcases (show z4 % 3 = 0 ∨ z4 % 3 = 1 ∨ z4 % 3 = 2 by omega) with h | h | h <;> rw [h] <;> rfl
    generalize oneD ds i = on at *
    generalize otherD ds i = ot at *
    generalize reachD ds = rc at *
    have rs : (List.range (i + 1)).map (edgeD ds) = (List.range i).map (edgeD ds) ++ [edgeD ds i] := by rw [List.range_succ, List.map_append]; rfl
    rw [rs]
    repeat walk_at "mst"
    refine k_ixL (k_sq hd4) i2 ?_
    repeat walk_at "mst"
    refine k_ixL (k_sq hd4) i3 ?_
    repeat walk_at "mst"
    refine k_cut (fun σ' H'' => H'' = H4 ∧ σ' = [some (.int c), some (.int 16), some (.ref dp), some (.int rc), some (.int (d1 / 4 % 2)), some (.ref ep), some (.int (i : Int)), some (.int on), some (.int ot)]) ?_ ?_
    · have no : ¬ grownD ds i → H4 = H4 ∧ [some (V.int c), some (.int 16), some (.ref dp), some (.int rc), some (.int (d1 / 4 % 2)), some (.ref ep), some (.int (i : Int)), some (.int (z2 % rc)), some (.int (z3 % rc))] = [some (.int c), some (.int 16), some (.ref dp), some (.int rc), some (.int (d1 / 4 % 2)), some (.ref ep), some (.int (i : Int)), some (.int on), some (.int ot)] := fun n => by
        rw [if_neg n] at h1 h2
        rw [h1, h2]
        exact ⟨rfl, rfl⟩
      repeat walk_at "mst"
      refine k_iteD (fun z => ?_) (fun z => ?_)
      · repeat walk_at "mst"
        refine k_ixL (k_sq hd4) i3 ?_
        repeat walk_at "mst"
        refine k_iteD (fun y => ?_) (fun y => ?_)
        · have g := hg.mpr ⟨z, by omega⟩
          rw [if_pos g] at h1 h2
          repeat walk_at "mst"
          refine k_ixL (k_sq hd4) i2 ?_
          repeat walk_at "mst"
          rename_i m1 p1 p2 p3 m2 q1 q2 q3
          have u1 : m1 = min (i : Int) 14 := by omega
          have u2 : m2 = min (i : Int) 14 := by omega
          rw [h1, h2, u1, u2]
          exact ⟨rfl, rfl⟩
        · repeat walk_at "mst"
          exact no fun g => y (by have := (hg.mp g).2; omega)
      · repeat walk_at "mst"
        exact no fun g => z (hg.mp g).1
    · rintro σ' H'' ⟨rfl, rfl⟩
      repeat walk_at "mst"
      refine k_ixL (k_sq hd4) i4 ?_
      repeat walk_at "mst"
      have on_ : ((on.toNat : Nat) : Int) = on := by omega
      have ot_ : ((ot.toNat : Nat) : Int) = ot := by omega
      refine k_iteD (fun z => ?_) (fun z => ?_)
      · rw [if_pos z] at he
        repeat walk_at "mst"
        walk_at "new"; rename_i cp ncp H5 e5 s5
        repeat walk_at "mst"
        refine k_ixL (k_sq (e5 _ _ hd4)) i4 ?_
        repeat walk_at "mst"
        refine k_ixL (k_sq s5) co ?_
        repeat walk_at "mst"
        walk_at "new"; rename_i tp ntp H6 e6 s6
        have e56 := e5.trans e6
        have hy6 := e56 _ _ hy
        have es6 := (es.imp fun y c q => q.ex e56).app (.one (P := EdAt) (y := .ref tp) (c := edgeD ds i) ⟨tp, rfl, by rw [he]; show H6 tp = some (.tup [.int ((ot.toNat : Nat) : Int), .int ((on.toNat : Nat) : Int), .str (colD z4)]); rw [on_, ot_]; exact s6⟩)
        repeat walk_at "mst"
        · exact fits' (by omega)
        refine ⟨ys ++ [.ref tp], _, _, _, Evl.Ex.mut (e4.trans e56) nep0, (upd_ne dep).trans (e56 _ _ hd4), upd_same, ?_, rfl⟩
        exact es6.imp fun y c q => q.keep (H' := upd H6 ep (HO.lst (ys ++ [V.ref tp]))) fun c o q n => (upd_ne fun e => n _ (by rw [e, hy6] at q; exact (Option.some.inj q).symm)).trans q
      · rw [if_neg z] at he
        repeat walk_at "mst"
        walk_at "new"; rename_i cp ncp H5 e5 s5
        repeat walk_at "mst"
        refine k_ixL (k_sq (e5 _ _ hd4)) i4 ?_
        repeat walk_at "mst"
        refine k_ixL (k_sq s5) co ?_
        repeat walk_at "mst"
        walk_at "new"; rename_i tp ntp H6 e6 s6
        have e56 := e5.trans e6
        have hy6 := e56 _ _ hy
        have es6 := (es.imp fun y c q => q.ex e56).app (.one (P := EdAt) (y := .ref tp) (c := edgeD ds i) ⟨tp, rfl, by rw [he]; show H6 tp = some (.tup [.int ((on.toNat : Nat) : Int), .int ((ot.toNat : Nat) : Int), .str (colD z4)]); rw [on_, ot_]; exact s6⟩)
        repeat walk_at "mst"
        · exact fits' (by omega)
        refine ⟨ys ++ [.ref tp], _, _, _, Evl.Ex.mut (e4.trans e56) nep0, (upd_ne dep).trans (e56 _ _ hd4), upd_same, ?_, rfl⟩
        exact es6.imp fun y c q => q.keep (H' := upd H6 ep (HO.lst (ys ++ [V.ref tp]))) fun c o q n => (upd_ne fun e => n _ (by rw [e, hy6] at q; exact (Option.some.inj q).symm)).trans q
  · rintro σ H4 ⟨ys, x6, x7, x8, e4, hd4, hy, es, rfl⟩
    rw [r0] at es
    repeat walk_at "mst"
    exact q ep ys H4 nep0 e4 hy es
theorem use_edges {K : PySem.W.Frag} {H : Hp} {Q : VK} {E : XK} {c : Int} (q : ∀ p ys H', H p = none → Ex H H' → H' p = some (.lst ys) → EsAt H' ys (edgesF c) → Q (.ref p) H') : sp_law_edges K ([.int c, .int 16] ++ []) H Q E := ⟨c, rfl, q⟩
def sp_law_cell (K : PySem.W.Frag) : Sp := fun vs H Q _ => ∃ (a : Addr) (ns : List Int) (k : Int), vs = [.ref a, .int k] ∧ SqL K H a (ns.map V.int) ∧ 0 ≤ k ∧ Q (.int (cellF ns k)) H
abbrev N_law_cell : List Str := ["script", "k", "mixed", "cell"]
def t_law_cell (K : PySem.W.Frag) (E : XK) : TS := (tSeq (tIfS (tTest (tOp rLtI (tVar 1) (tCB (rLenQ K) (tCons (tVar 0) tNil)))) (tRet (tOp (rIxL K) (tVar 0) (tVar 1))) tNext) (tSeq (tAsg (tOp rAddI (tOp rMulI (tC (.int 104729)) (tVar 1)) (tC (.int 7))) (gName 2)) (tSeq (tFor (iList K (tVar 0)) (gName 3) (tAsg (tOp rModI (tCB rIntI (tCons (tOp rAddI (tOp rMulI (tVar 2) (tC (.int 31))) (tVar 3)) tNil)) (tC (.int 2147483647))) (gName 2))) (tRet (tVar 2)))))
theorem len_law_cell {K : PySem.W.Frag} {vs : List V} {H : Hp} {Q : VK} {E : XK} (h : sp_law_cell K vs H Q E) : vs.length = 2 := by
  obtain ⟨_, _, _, rfl, _⟩ := h; rfl
theorem pure_law_cell {K : PySem.W.Frag} (vs : List V) (H : Hp) (Q : VK) (E : XK) (h : sp_law_cell K vs H Q E) : t_law_cell K E { nx := fun _ H' => Q .non H', rt := Q } (start N_law_cell vs) H := by
  obtain ⟨a, ns, k, rfl, hS, hk, q⟩ := h
  unfold t_law_cell
  repeat walk_at "mst"
  refine k_iteD (fun hc => ?_) (fun hc => ?_)
  · rw [List.length_map] at hc
    obtain ⟨z, mz, hz⟩ := at_int hk hc
    have e : cellF ns k = z := by
      unfold cellF
      rw [if_pos hc, List.getD_eq_getElem?_getD, mz]; rfl
    rw [e] at q
    repeat walk_at "mst"
    exact k_ixL hS hz q
  · rw [List.length_map] at hc
    have e : cellF ns k = ns.foldl (fun m c => (m * 31 + c) % 2147483647) (104729 * k + 7) := by
      unfold cellF
      rw [if_neg hc]
    rw [e] at q
    repeat walk_at "mst"
    refine ⟨a, rfl, ⟨_, hS⟩, forK_list (xs := ns.map V.int) (fun i σ H' => H' = H ∧ ∃ (v : Option V), σ = [some (.ref a), some (.int k), some (.int ((ns.take i).foldl (fun m c => (m * 31 + c) % 2147483647) (104729 * k + 7))), v]) ⟨rfl, _, rfl⟩ ?_ ?_ ?_⟩
    · rintro i σ H' _ ⟨rfl, _⟩; exact hS
    · rintro i x σ H' hx ⟨rfl, v, rfl⟩
      obtain ⟨z, hz, rfl⟩ := get_int hx
      repeat walk_at "mst"
      refine ⟨rfl, some (.int z), ?_⟩
      rw [List.take_add_one, hz, List.foldl_append]
      rfl
    · rintro σ H' ⟨rfl, v, rfl⟩
      rw [List.length_map, List.take_of_length_le (Nat.le_refl _)]
      repeat walk_at "mst"
      exact q
theorem use_cell {K : PySem.W.Frag} {H : Hp} {Q : VK} {E : XK} {a : Addr} {ns : List Int} {k : Int} (h : SqL K H a (ns.map V.int)) (h0 : 0 ≤ k) (q : Q (.int (cellF ns k)) H) : sp_law_cell K ([.ref a, .int k] ++ []) H Q E := ⟨a, ns, k, rfl, h, h0, q⟩
/-- a thing of a known kind: whether it is an int within bounds -/
def wholeV (x : V) (lo hi : Int) : Bool := match x with
  | .int i => decide (lo ≤ i) && decide (i ≤ hi)
  | _ => false
def sp_is_whole (K : PySem.W.Frag) : Sp := spR (fun vs H => ∃ (x : V) (T : String) (lo hi : Int), vs = [x, .int lo, .int hi] ∧ TyB K H x T)
  (fun vs H v H' => ∃ (x : V) (lo hi : Int), vs = [x, .int lo, .int hi] ∧ v = .bl (wholeV x lo hi) ∧ H' = H)
abbrev N_is_whole : List Str := ["thing", "least", "most"]
def t_is_whole (K : PySem.W.Frag) (E : XK) : TS := (tRet (tAndV (tOp rIsTy (tCB (rTyp K) (tCons (tVar 0) tNil)) (tC (.ty "int"))) (tChain rLeI rLeI (tVar 1) (tVar 0) (tVar 2))))
theorem len_is_whole {K : PySem.W.Frag} {vs : List V} {H : Hp} {Q : VK} {E : XK} (h : sp_is_whole K vs H Q E) : vs.length = 3 := by
  obtain ⟨⟨_, _, _, _, rfl, _⟩, _⟩ := h; rfl
theorem whole_ty {K : PySem.W.Frag} {H : Hp} {x : V} {T : String} (t : TyB K H x T) : (T = "int" ∧ ∃ i, x = .int i) ∨ (T ≠ "int" ∧ ∀ lo hi, wholeV x lo hi = false) := by
  cases t
  case int i => exact Or.inl ⟨rfl, i, rfl⟩
  all_goals exact Or.inr ⟨by decide, fun _ _ => rfl⟩
theorem pure_is_whole {K : PySem.W.Frag} (vs : List V) (H : Hp) (Q : VK) (E : XK) (h : sp_is_whole K vs H Q E) : t_is_whole K E { nx := fun _ H' => Q .non H', rt := Q } (start N_is_whole vs) H := by
  obtain ⟨⟨x, T, lo, hi, rfl, ht⟩, q⟩ := h
  unfold t_is_whole
  repeat walk_at "mst"
  refine ⟨x, T, rfl, ht, ?_⟩
  repeat walk_at "mst"
  rcases whole_ty ht with ⟨e, i, rfl⟩ | ⟨e, hf⟩
  · refine k_iteD (fun _ => ?_) (fun hn => absurd e hn)
    repeat walk_at "mst"
    refine k_iteD (fun h1 => ?_) (fun h1 => ?_)
    · repeat walk_at "mst"
      refine q _ _ ⟨_, lo, hi, rfl, ?_, rfl⟩
      show V.bl (decide (i ≤ hi)) = V.bl (decide (lo ≤ i) && decide (i ≤ hi))
      rw [decide_eq_true h1, Bool.true_and]
    · refine q _ _ ⟨_, lo, hi, rfl, ?_, rfl⟩
      show V.bl false = V.bl (decide (lo ≤ i) && decide (i ≤ hi))
      rw [decide_eq_false h1, Bool.false_and]
  · refine k_iteD (fun hy => absurd hy e) (fun _ => ?_)
    exact q _ _ ⟨x, lo, hi, rfl, by rw [hf], rfl⟩
/-- whether a thing is a colour -/
def colV : V → Bool
  | .str s => decide (s = "blue") || (decide (s = "green") || decide (s = "red"))
  | _ => false
/-- a thing that is no edge -/
def BadE (K : PySem.W.Frag) (H : Hp) (y : V) : Prop := (∃ T, TyB K H y T ∧ T ≠ "tuple") ∨ (∃ a xs, y = .ref a ∧ H a = some (.tup xs) ∧ xs.length ≤ 1000 ∧ xs.length ≠ 3) ∨ ∃ a y1 y2 y3, y = .ref a ∧ H a = some (.tup [y1, y2, y3]) ∧ (∃ T, TyB K H y1 T) ∧ (∃ T, TyB K H y2 T) ∧ (∃ T, TyB K H y3 T) ∧ (wholeV y1 0 15 = false ∨ wholeV y2 0 15 = false ∨ colV y3 = false)
theorem BadE.ex {K : PySem.W.Frag} {H H' : Hp} {y : V} (h : BadE K H y) (e : Ex H H') : BadE K H' y := by
  rcases h with ⟨T, t, n⟩ | ⟨a, xs, q, z, l⟩ | ⟨a, y1, y2, y3, q, z, ⟨T, t⟩, ⟨U, u⟩, ⟨W, w⟩, h⟩
  · exact Or.inl ⟨T, TyB.ex t e, n⟩
  · exact Or.inr (Or.inl ⟨a, xs, q, e _ _ z, l⟩)
  · exact Or.inr (Or.inr ⟨a, y1, y2, y3, q, e _ _ z, ⟨T, TyB.ex t e⟩, ⟨U, TyB.ex u e⟩, ⟨W, TyB.ex w e⟩, h⟩)
def sp_check_edge (K : PySem.W.Frag) : Sp := fun vs H Q E => ∃ (y : V), vs = [y] ∧ ((∃ c, EdAt H y c ∧ OkE c ∧ ∀ H', Ex H H' → Q .non H') ∨ (BadE K H y ∧ ∀ H', Ex H H' → E (.ref (He.ga K "BadValue")) none H'))
theorem k_NT {H : Hp} {Q : VK} {a b : String} (q : Q (.bl (!decide (a = b))) H) : rNT (.ty a) (.ty b) H Q := ⟨a, b, rfl, rfl, q⟩
theorem wh_in {i lo hi : Int} (h : lo ≤ i) (h2 : i ≤ hi) : wholeV (.int i) lo hi = true := by
  show (decide (lo ≤ i) && decide (i ≤ hi)) = true
  rw [decide_eq_true h, decide_eq_true h2]; rfl
theorem col_ok {s : Str} (h : OkC3 s) : colV (.str s) = true := by
  rcases h with rfl | rfl | rfl <;> decide +kernel
theorem ty_strV {K : PySem.W.Frag} {H : Hp} {y : V} {T : String} (t : TyB K H y T) (e : T = "str") : ∃ s, y = .str s := by
  cases t <;> first | exact ⟨_, rfl⟩ | exact absurd e (by decide)
theorem k_col {K : PySem.W.Frag} (F : FCOLOURS K) {s : Str} {H : Hp} {Q : VK} (q : Q (.bl (colV (.str s))) H) : rIn K false (.str s) (.ref (He.ga K "COLOURS")) H Q := by
  refine ⟨_, _, rfl, Or.inr (F.tu H), rfl, rfl, ?_⟩
  have e : inV (V.str s) [.str "blue", .str "green", .str "red"] = colV (.str s) := by
    have key : ∀ d : Str, eqV (V.str d) (V.str s) = decide (s = d) := fun d => decide_eq_decide.mpr ⟨fun h => h.symm, fun h => h.symm⟩
    show (eqV (V.str "blue") (V.str s) || (eqV (V.str "green") (V.str s) || (eqV (V.str "red") (V.str s) || false))) = _
    rw [key, key, key, Bool.or_false]
    rfl
  rw [e]
  exact q
abbrev N_check_edge : List Str := ["edge", "knot"]
def t_check_edge (K : PySem.W.Frag) (E : XK) : TS := (tSeq (tIfS (tOr (tTest (tOp rNT (tCB (rTyp K) (tCons (tVar 0) tNil)) (tC (.ty "tuple")))) (tTest (tOp rNe (tCB (rLenQ K) (tCons (tVar 0) tNil)) (tC (.int 3))))) (tRaise E (.ref (He.ga K "BadValue"))) tNext) (tSeq (tFor (iTup K (tSl (rSlA K) (tVar 0) tNoPart (tPart (tC (.int 2))))) (gName 1) (tIfS (tNot (tB (tCall (sp_is_whole K) [] E0 (tCons (tVar 1) (tCons (tC (.int 0)) (tCons (tC (.int 15)) tNil)))))) (tRaise E (.ref (He.ga K "BadValue"))) tNext)) (tIfS (tNot (tAnd (tTest (tOp rIsTy (tCB (rTyp K) (tCons (tOp (rIxT K) (tVar 0) (tC (.int 2))) tNil)) (tC (.ty "str")))) (tTest (tOp (rIn K false) (tOp (rIxT K) (tVar 0) (tC (.int 2))) (tC (.ref (He.ga K "COLOURS"))))))) (tRaise E (.ref (He.ga K "BadValue"))) tNext)))
theorem len_check_edge {K : PySem.W.Frag} {vs : List V} {H : Hp} {Q : VK} {E : XK} (h : sp_check_edge K vs H Q E) : vs.length = 1 := by
  obtain ⟨_, rfl, _⟩ := h; rfl
theorem pure_check_edge {K : PySem.W.Frag} (F : FCOLOURS K) (vs : List V) (H : Hp) (Q : VK) (E : XK) (h : sp_check_edge K vs H Q E) : t_check_edge K E { nx := fun _ H' => Q .non H', rt := Q } (start N_check_edge vs) H := by
  obtain ⟨y, rfl, h⟩ := h
  have three : ∀ (a : Addr) (y1 y2 y3 : V), y = .ref a → H a = some (.tup [y1, y2, y3]) → (∃ T, TyB K H y1 T) → (∃ T, TyB K H y2 T) → (∃ T, TyB K H y3 T) → ((wholeV y1 0 15 = false ∨ wholeV y2 0 15 = false ∨ colV y3 = false) → ∀ H', Ex H H' → E (.ref (He.ga K "BadValue")) none H') → (wholeV y1 0 15 = true → wholeV y2 0 15 = true → colV y3 = true → ∀ H', Ex H H' → Q .non H') → t_check_edge K E { nx := fun _ H' => Q .non H', rt := Q } (start N_check_edge [y]) H := by
    rintro a y1 y2 y3 rfl ha t1 t2 t3 bad good
    unfold t_check_edge
    repeat walk_at "mst"
    refine ⟨_, "tuple", rfl, .tup (k_st ha), ?_⟩
    repeat walk_at "mst"
    refine k_NT ?_
    rw [decide_eq_true rfl]
    repeat walk_at "mst"
    refine k_iteD (fun z => absurd rfl z) (fun _ => ?_)
    repeat walk_at "mst"
    refine k_slH ha fun sl H0 e0 hsl => ?_
    rw [show (2 : Int) = ((2 : Nat) : Int) from rfl, cut_cut (by show 2 ≤ 3; decide)] at hsl
    have hsl : H0 sl = some (.tup [y1, y2]) := hsl
    have ha0 := e0 _ _ ha
    repeat walk_at "mst"
    refine ⟨sl, rfl, ⟨_, k_st hsl⟩, forK_tup (xs := [y1, y2]) (fun i σ H' => H' = H0 ∧ (∀ y ∈ [y1, y2].take i, wholeV y 0 15 = true) ∧ ∃ x1 : Option V, σ = [some (.ref a), x1]) ⟨rfl, fun y m => (nomatch m), _, rfl⟩ ?_ ?_ ?_⟩
    · rintro i σ H' _ ⟨rfl, _⟩; exact k_st hsl
    · rintro i x σ H' hx ⟨rfl, pre, x1, rfl⟩
      have mx := List.mem_of_getElem? hx
      have tx : ∃ T, TyB K H' x T := by
        simp only [List.mem_cons, List.not_mem_nil, or_false] at mx
        rcases mx with rfl | rfl
        · obtain ⟨T, t⟩ := t1; exact ⟨T, TyB.ex t e0⟩
        · obtain ⟨T, t⟩ := t2; exact ⟨T, TyB.ex t e0⟩
      obtain ⟨U, tU⟩ := tx
      repeat walk_at "mst"
      refine ⟨⟨x, U, _, _, rfl, tU⟩, ?_⟩
      rintro v H1 ⟨x', lo, hi, e, rfl, rfl⟩
      cases e
      repeat walk_at "mst"
      cases hw : wholeV x 0 15
      · repeat walk_at "mst"
        refine bad ?_ _ e0
        simp only [List.mem_cons, List.not_mem_nil, or_false] at mx
        rcases mx with rfl | rfl
        · exact Or.inl hw
        · exact Or.inr (Or.inl hw)
      · repeat walk_at "mst"
        refine ⟨rfl, fun y m => ?_, _, rfl⟩
        rw [List.take_add_one, hx] at m
        rcases List.mem_append.mp m with m | m
        · exact pre y m
        · have : y = x := by simpa using m
          rw [this]; exact hw
    · rintro σ H' ⟨rfl, pre, x1, rfl⟩
      have p1 := pre _ (List.mem_cons_self ..)
      have p2 := pre _ (List.mem_cons_of_mem _ (List.mem_cons_self ..))
      obtain ⟨T, t3⟩ := t3
      repeat walk_at "mst"
      refine ⟨_, T, rfl, TyB.ex t3 e0, ?_⟩
      repeat walk_at "mst"
      refine k_iteD (fun z => ?_) (fun z => ?_)
      · obtain ⟨s, rfl⟩ := ty_strV t3 z
        repeat walk_at "mst"
        refine k_col F ?_
        cases hc : colV (.str s)
        · repeat walk_at "mst"
          exact bad (Or.inr (Or.inr hc)) _ e0
        · repeat walk_at "mst"
          exact good p1 p2 hc _ e0
      · repeat walk_at "mst"
        refine bad (Or.inr (Or.inr ?_)) _ e0
        cases t3 <;> first | rfl | exact absurd rfl z
  rcases h with ⟨c, ⟨a, rfl, ha⟩, ⟨a1, a2, a3⟩, q⟩ | ⟨br, q⟩
  · refine three a _ _ _ rfl ha ⟨_, .int _⟩ ⟨_, .int _⟩ ⟨_, .str _⟩ (fun h => ?_) (fun _ _ _ => q)
    rw [wh_in (by omega) (by omega), wh_in (by omega) (by omega), col_ok a3] at h
    rcases h with h | h | h <;> cases h
  · rcases br with ⟨T, t, n⟩ | ⟨a, xs, rfl, ha, l1, l3⟩ | ⟨a, y1, y2, y3, rfl, ha, t1, t2, t3, b⟩
    · unfold t_check_edge
      repeat walk_at "mst"
      refine ⟨_, T, rfl, t, ?_⟩
      repeat walk_at "mst"
      refine k_NT ?_
      rw [decide_eq_false n]
      repeat walk_at "mst"
      exact q _ (Evl.Ex.refl _)
    · unfold t_check_edge
      repeat walk_at "mst"
      refine ⟨_, "tuple", rfl, .tup (k_st ha), ?_⟩
      repeat walk_at "mst"
      refine k_NT ?_
      rw [decide_eq_true rfl]
      repeat walk_at "mst"
      refine k_iteD (fun z => ?_) (fun z => ?_)
      · repeat walk_at "mst"
        exact q _ (Evl.Ex.refl _)
      · exact absurd (by omega) z
    · refine three a _ _ _ rfl ha t1 t2 t3 (fun _ => q) (fun h1 h2 h3 => ?_)
      rw [h1, h2, h3] at b
      rcases b with b | b | b <;> cases b
theorem use_echeck {K : PySem.W.Frag} {H : Hp} {Q : VK} {E : XK} {y : V} (h : (∃ c, EdAt H y c ∧ OkE c ∧ ∀ H', Ex H H' → Q .non H') ∨ (BadE K H y ∧ ∀ H', Ex H H' → E (.ref (He.ga K "BadValue")) none H')) : sp_check_edge K ([y] ++ []) H Q E := ⟨y, rfl, h⟩
def sp_reached (K : PySem.W.Frag) : Sp := fun vs H Q _ => ∃ (ea ka : Addr) (xs : List V) (es : List Edge) (st : List Nat), vs = [.ref ea, .ref ka] ∧ SqL K H ea xs ∧ EsAt H xs es ∧ (∀ e ∈ es, OkE e) ∧ H ka = some (.lst (st.map fun k : Nat => V.int (k : Int))) ∧ st.length ≤ 2 ∧ ∀ D kvs H', H D = none → Ex H H' → H' D = some (.dK kvs) → (∀ k : Nat, dkey kvs (k : Int) = true ↔ From es st k) → Q (.ref D) H'
/-- a dict of True -/
def stD : List Nat → List (Key × V) → List (Key × V)
  | [], kv => kv
  | k :: st, kv => stD st (putK kv (Sum.inl (k : Int)) (.bl true))
theorem stD_snoc : ∀ (st : List Nat) (k : Nat) (kv : List (Key × V)), stD (st ++ [k]) kv = putK (stD st kv) (Sum.inl (k : Int)) (.bl true)
  | [], _, _ => rfl
  | a :: st, k, kv => stD_snoc st k _
theorem stD_key : ∀ (st : List Nat) (kv : List (Key × V)) (j : Int), dkey (stD st kv) j = true ↔ dkey kv j = true ∨ ∃ k ∈ st, j = (k : Int)
  | [], kv, j => by simp [stD]
  | a :: st, kv, j => by
    show dkey (stD st (putK kv (Sum.inl (a : Int)) (.bl true))) j = true ↔ _
    rw [stD_key st _ j, dkey_put, Bool.or_eq_true, decide_eq_true_iff]
    constructor
    · rintro ((h | h) | ⟨k, m, h⟩)
      · exact Or.inr ⟨a, List.mem_cons_self, h⟩
      · exact Or.inl h
      · exact Or.inr ⟨k, List.mem_cons_of_mem _ m, h⟩
    · rintro (h | ⟨k, m, h⟩)
      · exact Or.inl (Or.inr h)
      · rcases List.mem_cons.mp m with rfl | m
        · exact Or.inl (Or.inl h)
        · exact Or.inr ⟨k, m, h⟩
theorem put_le (kv : List (Key × V)) (k : Key) (v : V) : (putK kv k v).length ≤ kv.length + 1 := by
  induction kv with
  | nil => exact Nat.le_refl _
  | cons e kv ih =>
    unfold putK
    split <;> simp_all
theorem stD_len : ∀ (st : List Nat) (kv : List (Key × V)), (stD st kv).length ≤ kv.length + st.length
  | [], _ => Nat.le_refl _
  | a :: st, kv => by
    have h := stD_len st (putK kv (Sum.inl (a : Int)) (.bl true))
    have := put_le kv (Sum.inl (a : Int)) (.bl true)
    show (stD st _).length ≤ _
    rw [List.length_cons]
    omega
abbrev N_reached : List Str := ["edges", "knots", "found", "knot", "grown", "one", "other", "_"]
def t_reached (K : PySem.W.Frag) (E : XK) : TS := (tSeq (tAsg (tDc (iList K (tVar 1)) (gName 3) tYes (tVar 3) (tC (.bl true)) [3]) (gName 2)) (tSeq (tAsg (tC (.bl true)) (gName 4)) (tSeq (tWhile (tB (tVar 4)) (tSeq (tAsg (tC (.bl false)) (gName 4)) (tFor (iList K (tVar 0)) (gTup K 3 (gCons (gName 5) (gCons (gName 6) (gCons (gName 7) gNil)))) (tIfS (tTest (tOp rNe (tDIn (tVar 5) (tVar 2)) (tDIn (tVar 6) (tVar 2)))) (tSeq (tAsg2 (tC (.bl true)) (gSub (tVar 2) (tVar 5) rSetD) (gSub (tVar 2) (tVar 6) rSetD)) (tAsg (tC (.bl true)) (gName 4))) tNext)))) (tRet (tVar 2)))))
theorem len_reached {K : PySem.W.Frag} {vs : List V} {H : Hp} {Q : VK} {E : XK} (h : sp_reached K vs H Q E) : vs.length = 2 := by
  obtain ⟨_, _, _, _, _, rfl, _⟩ := h; rfl
theorem pure_reached {K : PySem.W.Frag} (vs : List V) (H : Hp) (Q : VK) (E : XK) (h : sp_reached K vs H Q E) : t_reached K E { nx := fun _ H' => Q .non H', rt := Q } (start N_reached vs) H := by
  obtain ⟨ea, ka, xs, es, st, rfl, hS, R, ok, hk, st2, q⟩ := h
  unfold t_reached
  unfold tDc
  repeat walk_at "mst"
  refine ⟨ka, rfl, ⟨_, k_sq hk⟩, ?_⟩
  intro D hD
  refine ⟨fun i m H' => i ≤ st.length ∧ m = st.length - i ∧ Ex H H' ∧ H' D = some (.dK (stD (st.take i) [])), ⟨st.length, Nat.zero_le _, rfl, Evl.Ex.new hD, upd_same⟩, ?_⟩
  rintro i m H1 ⟨hi, rfl, e1, h1⟩
  rcases Nat.lt_or_ge i st.length with li | li
  · have hg := List.getElem?_eq_getElem (l := st) (i := i) li
    have tk : st.take (i + 1) = st.take i ++ [st[i]] := by rw [List.take_succ, hg]; rfl
    generalize st[i] = k0 at *
    refine Or.inr ⟨⟨_, _, k_sq (e1 _ _ hk), by rw [List.getElem?_map, hg]; rfl⟩, fun H' => Ex H H' ∧ H' D = some (.dK (stD (st.take (i + 1)) [])), fun H' p => ⟨st.length - (i + 1), by omega, by omega, rfl, p.1, p.2⟩, ?_⟩
    rintro x H' y
    obtain ⟨eh, y⟩ := y
    subst eh
    have hx := y _ (k_sq (e1 _ _ hk))
    rw [List.getElem?_map, hg] at hx
    cases hx
    have few := stD_len (st.take i) []
    rw [List.length_take] at few
    have few : (stD (st.take i) []).length ≤ 0 + min i st.length := few
    repeat walk_at "mst"
    refine ⟨rfl, ?_⟩
    unfold tYes
    repeat walk_at "mst"
    exact ⟨_, Sum.inl (k0 : Int), rfl, h1, fits' (by omega), Evl.Ex.mut e1 hD, by rw [upd_same, tk, stD_snoc]⟩
  · have ei : i = st.length := by omega
    subst ei
    refine Or.inl ⟨⟨_, k_sq (e1 _ _ hk), by rw [List.length_map]; exact Nat.le_refl _⟩, ?_⟩
    rw [List.take_length] at h1
    have sk := stD_key st []
    have few := stD_len st []
    have few : (stD st []).length ≤ 0 + st.length := few
    have una := un_all 16 (dkey (stD st []))
    repeat walk_at "mst"
    refine k_while (fun m σ H' => ∃ (kvs : List (Key × V)) (g : Bool) (x5 x6 x7 : Option V), m = 2 * Un 16 (dkey kvs) + g.toNat ∧ Ex H H' ∧ H' D = some (.dK kvs) ∧ (∀ k ∈ st, dkey kvs (k : Int) = true) ∧ (∀ i, dkey kvs i = true → ∃ k : Nat, i = (k : Int) ∧ From es st k) ∧ kvs.length + Un 16 (dkey kvs) ≤ 20 ∧ (g = false → ∀ e ∈ es, dkey kvs (e.1 : Int) = dkey kvs (e.2.1 : Int)) ∧ σ = [some (.ref ea), some (.ref ka), some (.ref D), none, some (.bl g), x5, x6, x7]) _ ⟨_, true, none, none, none, rfl, e1, h1, fun k m => (sk _).mpr (Or.inr ⟨k, m, rfl⟩), fun j hj => ?_, by omega, fun h => (by cases h), rfl⟩ ?_
    · rcases (sk j).mp hj with h | ⟨k, m, h⟩
      · cases h
      · exact ⟨k, h, .base m⟩
    · rintro m σ H2 ⟨kvs, g, x5, x6, x7, rfl, e, hd, d0, hh, len, cl, rfl⟩
      repeat walk_at "mst"
      cases g
      · repeat walk_at "mst"
        refine q D kvs H2 hD e hd fun k => from_eq (S := fun k => dkey kvs (k : Int) = true) d0 (fun k h => ?_) (fun ed m => by rw [cl rfl ed m]) k
        obtain ⟨k', ek, hg⟩ := hh _ h
        have : k = k' := by omega
        rw [this]; exact hg
      · repeat walk_at "mst"
        refine ⟨fun σ' H' => ∃ (kvs' : List (Key × V)) (g : Bool) (x5 x6 x7 : Option V), 2 * Un 16 (dkey kvs') + g.toNat < 2 * Un 16 (dkey kvs) + 1 ∧ Ex H H' ∧ H' D = some (.dK kvs') ∧ (∀ k ∈ st, dkey kvs' (k : Int) = true) ∧ (∀ i, dkey kvs' i = true → ∃ k : Nat, i = (k : Int) ∧ From es st k) ∧ kvs'.length + Un 16 (dkey kvs') ≤ 20 ∧ (g = false → ∀ e ∈ es, dkey kvs' (e.1 : Int) = dkey kvs' (e.2.1 : Int)) ∧ σ' = [some (.ref ea), some (.ref ka), some (.ref D), none, some (.bl g), x5, x6, x7], ?_, ?_⟩
        · rintro σ' H' ⟨kvs', g, x5, x6, x7, lt, r⟩
          exact ⟨_, lt, kvs', g, x5, x6, x7, rfl, r⟩
        repeat walk_at "mst"
        have hS2 := Evl.ex_l e hS
        refine ⟨ea, rfl, ⟨_, hS2⟩, forK_list (xs := xs) (fun i σ H' => ∃ (kvs' : List (Key × V)) (g : Bool) (x5 x6 x7 : Option V), Ex H H' ∧ H' D = some (.dK kvs') ∧ (∀ k ∈ st, dkey kvs' (k : Int) = true) ∧ (∀ i, dkey kvs' i = true → ∃ k : Nat, i = (k : Int) ∧ From es st k) ∧ kvs'.length + Un 16 (dkey kvs') ≤ 20 ∧ (g = false → kvs' = kvs ∧ ∀ (j : Nat) (e : Edge), j < i → es[j]? = some e → dkey kvs' (e.1 : Int) = dkey kvs' (e.2.1 : Int)) ∧ (g = true → Un 16 (dkey kvs') + 1 ≤ Un 16 (dkey kvs)) ∧ Un 16 (dkey kvs') ≤ Un 16 (dkey kvs) ∧ σ = [some (.ref ea), some (.ref ka), some (.ref D), none, some (.bl g), x5, x6, x7]) ⟨kvs, false, _, _, _, e, hd, d0, hh, len, fun _ => ⟨rfl, fun j e h => absurd h (Nat.not_lt_zero _)⟩, fun h => (by cases h), Nat.le_refl _, rfl⟩ ?_ ?_ ?_⟩
        · rintro i σ H' _ ⟨kvs', g, x5, x6, x7, e, _⟩; exact Evl.ex_l e hS
        · rintro i x σ H3 hx ⟨kv, g, y5, y6, y7, e3, hd3, d03, hh3, len3, g0, g1, un, rfl⟩
          have hi := (List.getElem?_eq_some_iff.mp hx).1
          have he := List.getElem?_eq_getElem (l := es) (i := i) (by rw [← R.1]; exact hi)
          obtain ⟨x', hx', a, rfl, ha⟩ := R.2 i _ he
          rw [hx] at hx'
          cases hx'
          have me := List.mem_of_getElem? he
          have oke := ok _ me
          generalize es[i]'(by rw [← R.1]; exact hi) = ed at *
          obtain ⟨one, other, col⟩ := ed
          obtain ⟨o1, o2, _⟩ := oke
          have o1 : one ≤ 15 := o1
          have o2 : other ≤ 15 := o2
          refine k_gtup (k_st (e3 _ _ ha)) rfl ?_
          repeat walk_at "mst"
          refine ⟨D, _, rfl, DGet.k (k := Sum.inl (one : Int)) hd3, ?_⟩
          have k1 : (valV kv (Sum.inl (one : Int))).isSome = dkey kv (one : Int) := rfl
          rw [k1]
          repeat walk_at "mst"
          refine ⟨D, _, rfl, DGet.k (k := Sum.inl (other : Int)) hd3, ?_⟩
          have k2 : (valV kv (Sum.inl (other : Int))).isSome = dkey kv (other : Int) := rfl
          rw [k2]
          repeat walk_at "mst"
          refine ⟨rfl, ?_⟩
          have ev : ∀ b c : Bool, (!decide (V.bl b = V.bl c)) = (b != c) := by
            intro b c
            cases b <;> cases c <;> decide
          rw [ev]
          have dk2 : ∀ j, dkey (putK (putK kv (Sum.inl (one : Int)) (.bl true)) (Sum.inl (other : Int)) (.bl true)) j = (decide (j = (other : Int)) || (decide (j = (one : Int)) || dkey kv j)) := fun j => by rw [dkey_put, dkey_put]
          have l1 := put_len kv (k := (one : Int)) (.bl true) (n := 16) ⟨by omega, by omega⟩
          have l2 := put_len (putK kv (Sum.inl (one : Int)) (.bl true)) (k := (other : Int)) (.bl true) (n := 16) ⟨by omega, by omega⟩
          have up2 : ∀ j, dkey kv j = true → dkey (putK (putK kv (Sum.inl (one : Int)) (.bl true)) (Sum.inl (other : Int)) (.bl true)) j = true := fun j h => by rw [dk2, h]; simp
          have same : dkey kv (one : Int) = dkey kv (other : Int) → ∃ (kvs' : List (Key × V)) (g' : Bool) (x5 x6 x7 : Option V), Ex H H3 ∧ H3 D = some (.dK kvs') ∧ (∀ k ∈ st, dkey kvs' (k : Int) = true) ∧ (∀ i, dkey kvs' i = true → ∃ k : Nat, i = (k : Int) ∧ From es st k) ∧ kvs'.length + Un 16 (dkey kvs') ≤ 20 ∧ (g' = false → kvs' = kvs ∧ ∀ (j : Nat) (e : Edge), j < i + 1 → es[j]? = some e → dkey kvs' (e.1 : Int) = dkey kvs' (e.2.1 : Int)) ∧ (g' = true → Un 16 (dkey kvs') + 1 ≤ Un 16 (dkey kvs)) ∧ Un 16 (dkey kvs') ≤ Un 16 (dkey kvs) ∧ [some (V.ref ea), some (.ref ka), some (.ref D), none, some (.bl g), some (.int (one : Int)), some (.int (other : Int)), some (.str col)] = [some (.ref ea), some (.ref ka), some (.ref D), none, some (.bl g'), x5, x6, x7] := fun eq => by
            refine ⟨kv, g, _, _, _, e3, hd3, d03, hh3, len3, fun hg => ⟨(g0 hg).1, fun j e hj h => ?_⟩, g1, un, rfl⟩
            rcases Nat.lt_or_ge j i with l | l
            · exact (g0 hg).2 j e l h
            · have ej : j = i := by omega
              subst ej
              rw [he] at h
              cases h
              exact eq
          have grow : (dkey kv (one : Int) = false ∨ dkey kv (other : Int) = false) → From es st one → From es st other → Un 16 (dkey (putK (putK kv (Sum.inl (one : Int)) (.bl true)) (Sum.inl (other : Int)) (.bl true))) + 1 ≤ Un 16 (dkey kv) ∧ ∀ i, dkey (putK (putK kv (Sum.inl (one : Int)) (.bl true)) (Sum.inl (other : Int)) (.bl true)) i = true → ∃ k : Nat, i = (k : Int) ∧ From es st k := by
            intro new h1 h2
            refine ⟨?_, fun j hj => ?_⟩
            · rcases new with n | n
              · exact un_lt up2 (a := (one : Int)) ⟨by omega, by omega⟩ n (by rw [dk2]; simp)
              · exact un_lt up2 (a := (other : Int)) ⟨by omega, by omega⟩ n (by rw [dk2]; simp)
            · rw [dk2, Bool.or_eq_true, Bool.or_eq_true, decide_eq_true_iff, decide_eq_true_iff] at hj
              rcases hj with rfl | rfl | hj
              · exact ⟨other, rfl, h2⟩
              · exact ⟨one, rfl, h1⟩
              · exact hh3 j hj
          have lenp : (putK kv (Sum.inl (one : Int)) (.bl true)).length ≤ 20 := by omega
          cases b1 : dkey kv (one : Int) <;> cases b2 : dkey kv (other : Int)
          · repeat walk_at "mst"
            exact same (by rw [b1, b2])
          · obtain ⟨k', ek, hg⟩ := hh3 _ b2
            have ek : other = k' := by omega
            subst ek
            obtain ⟨un2, hh2⟩ := grow (Or.inl b1) (From.down me hg) hg
            repeat walk_at "mst"
            rw [if_pos (show (false != true) = true from rfl)]
            unfold tAsg2
            repeat walk_at "mst"
            refine ⟨D, _, rfl, DPut.k (k := Sum.inl (one : Int)) hd3 (fits' (by omega)), ?_⟩
            repeat walk_at "mst"
            refine ⟨D, _, rfl, DPut.k (k := Sum.inl (other : Int)) upd_same (fits' (by omega)), ?_⟩
            repeat walk_at "mst"
            exact ⟨_, true, _, _, _, Evl.Ex.mut (Evl.Ex.mut e3 hD) hD, upd_same, fun k m => up2 _ (d03 k m), hh2, by omega, fun h => (by cases h), fun _ => by omega, by omega, rfl⟩
          · obtain ⟨k', ek, hg⟩ := hh3 _ b1
            have ek : one = k' := by omega
            subst ek
            obtain ⟨un2, hh2⟩ := grow (Or.inr b2) hg (From.up me hg)
            repeat walk_at "mst"
            rw [if_pos (show (true != false) = true from rfl)]
            unfold tAsg2
            repeat walk_at "mst"
            refine ⟨D, _, rfl, DPut.k (k := Sum.inl (one : Int)) hd3 (fits' (by omega)), ?_⟩
            repeat walk_at "mst"
            refine ⟨D, _, rfl, DPut.k (k := Sum.inl (other : Int)) upd_same (fits' (by omega)), ?_⟩
            repeat walk_at "mst"
            exact ⟨_, true, _, _, _, Evl.Ex.mut (Evl.Ex.mut e3 hD) hD, upd_same, fun k m => up2 _ (d03 k m), hh2, by omega, fun h => (by cases h), fun _ => by omega, by omega, rfl⟩
          · repeat walk_at "mst"
            exact same (by rw [b1, b2])
        · rintro σ H3 ⟨kv, g, y5, y6, y7, e3, hd3, d03, hh3, len3, g0, g1, un, rfl⟩
          refine ⟨kv, g, _, _, _, ?_, e3, hd3, d03, hh3, len3, fun hg ed m => ?_, rfl⟩
          · cases g
            · show 2 * _ + 0 < _; omega
            · have := g1 rfl
              show 2 * _ + 1 < _; omega
          · obtain ⟨j, hj⟩ := List.getElem?_of_mem m
            exact (g0 hg).2 j ed (by rw [R.1]; exact (List.getElem?_eq_some_iff.mp hj).1) hj
theorem use_reachedF {K : PySem.W.Frag} {H : Hp} {Q : VK} {E : XK} {ea ka : Addr} {xs : List V} {es : List Edge} {st : List Nat} (hS : SqL K H ea xs) (R : EsAt H xs es) (ok : ∀ e ∈ es, OkE e) (hk : H ka = some (.lst (st.map fun k : Nat => V.int (k : Int)))) (l2 : st.length ≤ 2) (q : ∀ D kvs H', H D = none → Ex H H' → H' D = some (.dK kvs) → (∀ k : Nat, dkey kvs (k : Int) = true ↔ From es st k) → Q (.ref D) H') : sp_reached K ([.ref ea, .ref ka] ++ []) H Q E := ⟨ea, ka, xs, es, st, rfl, hS, R, ok, hk, l2, q⟩
theorem use_reached {K : PySem.W.Frag} {H : Hp} {Q : VK} {E : XK} {ea ka : Addr} {xs : List V} {es : List Edge} (hS : SqL K H ea xs) (R : EsAt H xs es) (ok : ∀ e ∈ es, OkE e) (hk : H ka = some (.lst [.int 0])) (q : ∀ D kvs H', H D = none → Ex H H' → H' D = some (.dK kvs) → (∀ k : Nat, dkey kvs (k : Int) = true ↔ Hangs es k) → Q (.ref D) H') : sp_reached K ([.ref ea, .ref ka] ++ []) H Q E :=
  ⟨ea, ka, xs, es, [0], rfl, hS, R, ok, hk, by decide, fun D kvs H' nD e hD key => q D kvs H' nD e hD fun k => (key k).trans (from_hangs es k)⟩
def sp_Hedge_d_init (K : PySem.W.Frag) : Sp := fun vs H Q E => ∃ (p dx : Addr) (x : V), vs = [.ref p, x] ∧ H p = some (.ins (He.ga K "Hedge") dx []) ∧ (
  (∃ a xs es, x = .ref a ∧ SqL K H a xs ∧ EsAt H xs es ∧ (∀ e ∈ es, OkE e) ∧ es.length ≤ 16 ∧ ∀ t ys H', H t = none → (∀ c o, H c = some o → c ≠ p → H' c = some o) → H' t = some (.tup ys) → EsAt H' ys (keptE es) → H' p = some (.ins (He.ga K "Hedge") dx (ghe t)) → Q .non H')
  ∨ (∃ T, TyB K H x T ∧ T ≠ "list" ∧ E (.ref (He.ga K "BadValue")) none H)
  ∨ (∃ a xs, x = .ref a ∧ SqL K H a xs ∧ 16 < xs.length ∧ xs.length ≤ 2000 ∧ E (.ref (He.ga K "BadValue")) none H)
  ∨ (∃ a xs i y, x = .ref a ∧ SqL K H a xs ∧ xs.length ≤ 16 ∧ xs[i]? = some y ∧ BadE K H y ∧ (∀ (j : Nat) (y : V), j < i → xs[j]? = some y → ∃ c, EdAt H y c ∧ OkE c) ∧ ∀ H', Ex H H' → E (.ref (He.ga K "BadValue")) none H'))
theorem EdAt.same {H : Hp} {v : V} {c d : Edge} (h1 : EdAt H v c) (h2 : EdAt H v d) : c = d := by
  obtain ⟨a, rfl, h1⟩ := h1
  obtain ⟨b, eb, h2⟩ := h2
  injection eb with eb
  subst eb
  rw [h1] at h2
  injection h2 with h2
  injection h2 with h2
  obtain ⟨c1, c2, c3⟩ := c
  obtain ⟨d1, d2, d3⟩ := d
  simp only [List.cons.injEq, V.int.injEq, V.str.injEq, and_true] at h2
  obtain ⟨q1, q2, q3⟩ := h2
  have q1 : c1 = d1 := by omega
  have q2 : c2 = d2 := by omega
  subst q1 q2 q3
  rfl
open Classical in
noncomputable def keepF (H : Hp) (f : Nat → Bool) (v : V) : Option V := if ∃ e, EdAt H v e ∧ f e.1 = true then some v else none
theorem keepF_at {H : Hp} {f : Nat → Bool} {v : V} {e : Edge} (h : EdAt H v e) : keepF H f v = if f e.1 = true then some v else none := by
  unfold keepF
  by_cases z : f e.1 = true
  · rw [if_pos z, if_pos ⟨e, h, z⟩]
  · rw [if_neg z, if_neg]
    rintro ⟨e', h', z'⟩
    rw [EdAt.same h h'] at z
    exact z z'
theorem keep_es {H : Hp} {f : Nat → Bool} : ∀ {xs : List V} {es : List Edge}, EsAt H xs es → EsAt H (xs.filterMap (keepF H f)) (es.filter fun e => f e.1)
  | [], [], _ => .nil
  | x :: xs, e :: es, h => by
    obtain ⟨h1, h2⟩ := h.tail
    have ih := keep_es (f := f) h2
    rw [List.filterMap_cons, keepF_at h1, List.filter_cons]
    by_cases z : f e.1 = true
    · rw [if_pos z, if_pos z]
      exact AllAt.app (xs := [x]) (cs := [e]) (.one h1) ih
    · rw [if_neg z, if_neg z]
      exact ih
  | [], _ :: _, h => absurd h.1 (by simp)
  | _ :: _, [], h => absurd h.1 (by simp)
local macro_rules | `(tactic| walk_at "new") => `(tactic| ((first | refine ⟨fits (Nat.le_of_ble_eq_true rfl), ?_⟩ | skip); intro p np; generalize hq : upd _ p _ = H1; have e1 := nx np hq; have s1 := nS hq; clear hq))
abbrev N_Hedge_d_init : List Str := ["self", "edges", "edge", "held"]
def t_Hedge_d_init (K : PySem.W.Frag) (E : XK) : TS := (tSeq (tIfS (tOr (tTest (tOp rNT (tCB (rTyp K) (tCons (tVar 1) tNil)) (tC (.ty "list")))) (tTest (tOp rGtI (tCB (rLenQ K) (tCons (tVar 1) tNil)) (tC (.int 16))))) (tRaise E (.ref (He.ga K "BadValue"))) tNext) (tSeq (tFor (iList K (tVar 1)) (gName 2) (tDrop (tCall (sp_check_edge K) [] E (tCons (tVar 2) tNil)))) (tSeq (tAsg (tCall (sp_reached K) [] E0 (tCons (tVar 1) (tCons (tLst (tCons (tC (.int 0)) tNil)) tNil))) (gName 3)) (sFld K (tVar 0) (tCB (rTupL K) (tCons (tLc (iList K (tVar 1)) (gName 2) (tB (tDIn (tOp (rIxT K) (tVar 2) (tC (.int 0))) (tVar 3))) (tVar 2) [2]) tNil)) "_edges"))))
theorem len_Hedge_d_init {K : PySem.W.Frag} {vs : List V} {H : Hp} {Q : VK} {E : XK} (h : sp_Hedge_d_init K vs H Q E) : vs.length = 2 := by
  obtain ⟨_, _, _, rfl, _⟩ := h; rfl
theorem pure_Hedge_d_init {K : PySem.W.Frag} (F : FHedge K) (vs : List V) (H : Hp) (Q : VK) (E : XK) (h : sp_Hedge_d_init K vs H Q E) : t_Hedge_d_init K E { nx := fun _ H' => Q .non H', rt := Q } (start N_Hedge_d_init vs) H := by
  obtain ⟨p, dx, x, rfl, hp, h⟩ := h
  have walk : ∀ (a : Addr) (xs : List V) (i0 : Nat), x = .ref a → SqL K H a xs → i0 ≤ xs.length → xs.length ≤ 16 →
      (∀ (j : Nat) (y : V), j < i0 → xs[j]? = some y → ∃ c, EdAt H y c ∧ OkE c) →
      (i0 < xs.length → ∃ y, xs[i0]? = some y ∧ BadE K H y ∧ ∀ H', Ex H H' → E (.ref (He.ga K "BadValue")) none H') →
      (i0 = xs.length → ∃ es, EsAt H xs es ∧ (∀ e ∈ es, OkE e) ∧ ∀ t ys H', H t = none → (∀ c o, H c = some o → c ≠ p → H' c = some o) → H' t = some (.tup ys) → EsAt H' ys (keptE es) → H' p = some (.ins (He.ga K "Hedge") dx (ghe t)) → Q .non H') →
      t_Hedge_d_init K E { nx := fun _ H' => Q .non H', rt := Q } (start N_Hedge_d_init [.ref p, x]) H := by
    rintro a xs i0 rfl hS il l16 good bad fin
    unfold t_Hedge_d_init
    repeat walk_at "mst"
    refine ⟨_, "list", rfl, .lst hS, ?_⟩
    repeat walk_at "mst"
    refine k_NT ?_
    rw [decide_eq_true rfl]
    repeat walk_at "mst"
    refine k_iteD (fun z => absurd z (by omega)) (fun _ => ?_)
    repeat walk_at "mst"
    refine ⟨a, rfl, ⟨_, hS⟩, forK_list (xs := xs) (fun i σ H' => Ex H H' ∧ i ≤ i0 ∧ ∃ x2 : Option V, σ = [some (.ref p), some (.ref a), x2, none]) ⟨Evl.Ex.refl _, Nat.zero_le _, _, rfl⟩ ?_ ?_ ?_⟩
    · rintro i σ H' _ ⟨e, _⟩; exact Evl.ex_l e hS
    · rintro i y σ H' hy ⟨e, ij, x2, rfl⟩
      have hi := (List.getElem?_eq_some_iff.mp hy).1
      repeat walk_at "mst"
      rcases Nat.lt_or_ge i i0 with l | l
      · obtain ⟨c, hc, ok⟩ := good i y l hy
        refine use_echeck (Or.inl ⟨c, hc.ex e, ok, fun H2 e2 => ?_⟩)
        repeat walk_at "mst"
        exact ⟨e.trans e2, l, _, rfl⟩
      · have ei : i = i0 := by omega
        subst ei
        obtain ⟨y', hy', br, r⟩ := bad hi
        rw [hy] at hy'
        cases hy'
        exact use_echeck (Or.inr ⟨br.ex e, fun H2 e2 => r _ (e.trans e2)⟩)
    · rintro σ H' ⟨e, ij, x2, rfl⟩
      obtain ⟨es, R, okk, gp⟩ := fin (by omega)
      have hS0 := Evl.ex_l e hS
      repeat walk_at "mst"
      walk_at "new"; rename_i ka nka H1 e1 s1
      repeat walk_at "mst"
      refine use_reached (Evl.ex_l e1 hS0) (R.imp fun y c q => q.ex (e.trans e1)) okk s1 fun D kvs H2 nD e2 hD key => ?_
      have e02 := (e.trans e1).trans e2
      have hS2 := Evl.ex_l e02 hS
      repeat walk_at "mst"
      refine ⟨a, rfl, ⟨_, hS2⟩, lcR_list (keepF H fun k => dkey kvs (k : Int)) hS2 (fits' (by omega)) (fun x mx => ?_) fun L H3 nL e3 hL => ?_⟩
      · intro H'' e'' RR rr
        obtain ⟨i, hx⟩ := List.getElem?_of_mem mx
        have hi := (List.getElem?_eq_some_iff.mp hx).1
        have hc := List.getElem?_eq_getElem (l := es) (i := i) (by rw [← R.1]; exact hi)
        obtain ⟨x', hx', at_⟩ := R.2 i _ hc
        rw [hx] at hx'
        cases hx'
        have kf := keepF_at (f := fun k => dkey kvs (k : Int)) at_
        obtain ⟨u, rfl, hu⟩ := at_
        generalize es[i]'(by rw [← R.1]; exact hi) = ed at *
        obtain ⟨one, other, col⟩ := ed
        have hu' := e'' _ _ (e02 _ _ hu)
        repeat walk_at "mst"
        refine ⟨rfl, ?_⟩
        repeat walk_at "mst"
        refine ⟨D, _, rfl, DGet.k (k := Sum.inl (one : Int)) (e'' _ _ hD), ?_⟩
        have k1 : (valV kvs (Sum.inl (one : Int))).isSome = dkey kvs (one : Int) := rfl
        rw [k1]
        have kf : keepF H (fun k => dkey kvs (k : Int)) (.ref u) = if dkey kvs (one : Int) = true then some (.ref u) else none := kf
        rw [kf] at rr
        cases hb : dkey kvs (one : Int)
        · rw [hb] at rr
          repeat walk_at "mst"
          exact rr _ (Evl.Ex.refl _)
        · rw [hb] at rr
          repeat walk_at "mst"
          exact rr _ (Evl.Ex.refl _)
      · have hp3 := e3 _ _ (e02 _ _ hp)
        have e03 := e02.trans e3
        have kept := keep_es (f := fun k => dkey kvs (k : Int)) R
        rw [kept_by (f := fun k => dkey kvs (k : Int)) key] at kept
        repeat walk_at "mst"
        refine fun t ht => ?_
        have npt : p ≠ t := ne_of_none hp3 ht
        repeat walk_at "mst"
        refine ⟨p, _, dx, [], rfl, (upd_ne npt).trans hp3, F.cl, F.na, by show 0 < 1000; decide, ?_⟩
        refine gp t _ _ (Evl.fresh_back e03 ht) (fun c o z y => ?_) ?_ (kept.imp fun y c q => ?_) upd_same
        · rw [upd_ne y, upd_ne (ne_of_none (e03 _ _ z) ht)]; exact e03 _ _ z
        · rw [upd_ne npt.symm, upd_same]
        · obtain ⟨u, r, hu⟩ := q
          have nup : u ≠ p := fun h => by rw [h, hp] at hu; cases hu
          exact ⟨u, r, by rw [upd_ne nup, upd_ne (ne_of_none (e03 _ _ hu) ht)]; exact e03 _ _ hu⟩
  rcases h with ⟨a, xs, es, rfl, hS, R, ok, l16, q⟩ | ⟨T, t, n, r⟩ | ⟨a, xs, rfl, hS, l1, l2, r⟩ | ⟨a, xs, i, y, rfl, hS, l16, hy, br, good, r⟩
  · have l := R.1
    refine walk a xs xs.length rfl hS (Nat.le_refl _) (by omega) (fun j y hj hy => ?_) (fun h => absurd h (Nat.lt_irrefl _)) (fun _ => ⟨es, R, ok, q⟩)
    have hc := List.getElem?_eq_getElem (l := es) (i := j) (by omega)
    obtain ⟨y', h1, h2⟩ := R.2 j _ hc
    rw [hy] at h1
    cases h1
    exact ⟨_, h2, ok _ (List.mem_of_getElem? hc)⟩
  · unfold t_Hedge_d_init
    repeat walk_at "mst"
    refine ⟨_, T, rfl, t, ?_⟩
    repeat walk_at "mst"
    refine k_NT ?_
    rw [decide_eq_false n]
    repeat walk_at "mst"
    exact r
  · unfold t_Hedge_d_init
    repeat walk_at "mst"
    refine ⟨_, "list", rfl, .lst hS, ?_⟩
    repeat walk_at "mst"
    refine k_NT ?_
    rw [decide_eq_true rfl]
    repeat walk_at "mst"
    refine k_iteD (fun _ => ?_) (fun z => absurd (by omega) z)
    repeat walk_at "mst"
    exact r
  · have hi := (List.getElem?_eq_some_iff.mp hy).1
    exact walk a xs i rfl hS (by omega) l16 good (fun _ => ⟨y, hy, br, r⟩) (fun h => by omega)
/-- a hedge is made -/
theorem mk_he {K : PySem.W.Frag} {H : Hp} {Q : Addr → Hp → Prop} {E : XK} {a : Addr} {xs : List V} {es : List Edge} (hS : SqL K H a xs) (R : EsAt H xs es) (ok : ∀ e ∈ es, OkE e) (l16 : es.length ≤ 16) (k : ∀ x H', H x = none → Ex H H' → HgAt K H' x (keptE es) → Q x H') :
    ∀ x dx, H x = none → H dx = none → dx ≠ x → sp_Hedge_d_init K (.ref x :: ([.ref a] ++ [])) (upd (upd H dx (.own x)) x (.ins (He.ga K "Hedge") dx [])) (fun v H2 => v = .non ∧ Q x H2) E := by
  intro x dx hx hd hne
  have e : Ex H (upd (upd H dx (.own x)) x (.ins (He.ga K "Hedge") dx [])) := (Evl.Ex.new hd).trans (Evl.Ex.new (by rw [upd_ne hne.symm]; exact hx))
  exact ⟨x, dx, _, rfl, upd_same, Or.inl ⟨a, xs, es, rfl, Evl.ex_l e hS, R.imp fun y c q => q.ex e, ok, l16, fun t ys H' ht kp h1 h2 h3 => ⟨rfl, k x H' hx (fun c o z => kp c o (e _ _ z) (ne_of_none z hx)) ⟨dx, t, ys, h3, h1, h2⟩⟩⟩⟩
def sp_law_hanging (K : PySem.W.Frag) : Sp := fun vs H Q _ => ∃ (ea : Addr) (xs : List V) (es : List Edge), vs = [.ref ea] ∧ SqL K H ea xs ∧ EsAt H xs es ∧ (∀ e ∈ es, OkE e) ∧ es.length ≤ 16 ∧ ∀ t ys H', Ex H H' → H' t = some (.tup ys) → EsAt H' ys (keptE es) → Q (.ref t) H'
local macro_rules | `(tactic| walk_at "new") => `(tactic| ((first | refine ⟨fits (Nat.le_of_ble_eq_true rfl), ?_⟩ | skip); intro p np; generalize hq : upd _ p _ = H1; have e1 := nx np hq; have s1 := nS hq; clear hq))
/-- knots found so far -/
structure Kn5 (es : List Edge) (ks : List Int) : Prop where
  nd : ks.Nodup
  z : (0 : Int) ∈ ks
  hg : ∀ x ∈ ks, ∃ k : Nat, x = (k : Int) ∧ Hangs es k
theorem Kn5.few {es : List Edge} {ks : List Int} (h : Kn5 es ks) (ok : ∀ e ∈ es, OkE e) : ks.length ≤ 16 := by
  have := nodup_le ks ((List.range 16).map fun k => ((k : Nat) : Int)) h.nd fun x m => by
    obtain ⟨k, rfl, g⟩ := h.hg x m
    exact List.mem_map.mpr ⟨k, List.mem_range.mpr (by have := hangs_small ok g; omega), rfl⟩
  simpa using this
theorem Kn5.add {es : List Edge} {ks : List Int} (h : Kn5 es ks) {k : Nat} (n : (k : Int) ∉ ks) (g : Hangs es k) : Kn5 es (ks ++ [(k : Int)]) := by
  refine ⟨List.nodup_append.mpr ⟨h.nd, by simp, fun a ma b mb => ?_⟩, List.mem_append_left _ h.z, fun x m => ?_⟩
  · rw [List.mem_singleton] at mb
    subst mb
    exact fun e => n (e ▸ ma)
  · rcases List.mem_append.mp m with m | m
    · exact h.hg x m
    · rw [List.mem_singleton] at m
      exact ⟨k, m, g⟩
theorem k_iteI {p A B : Prop} [Decidable p] (h1 : p → A) (h2 : ¬ p → B) : if (if false = true then !decide p else decide p) = true then A else B := by
  by_cases h : p
  · rw [if_pos (by simpa using h)]; exact h1 h
  · rw [if_neg (by simpa using h)]; exact h2 h
theorem k_iteO {p A B : Prop} [Decidable p] (h1 : ¬ p → A) (h2 : p → B) : if (if true = true then !decide p else decide p) = true then A else B := by
  by_cases h : p
  · rw [if_neg (by simpa using h)]; exact h2 h
  · rw [if_pos (by simpa using h)]; exact h1 h
abbrev N_law_hanging : List Str := ["edges", "knots", "turn", "many", "edge"]
def t_law_hanging (K : PySem.W.Frag) (E : XK) : TS := (tSeq (tAsg (tLst (tCons (tC (.int 0)) tNil)) (gName 1)) (tSeq (tFor (iRng1 (tCons (tC (.int 17)) tNil)) (gName 2) (tSeq (tAsg (tCB (rLenQ K) (tCons (tVar 1) tNil)) (gName 3)) (tSeq (tFor (iList K (tVar 0)) (gName 4) (Evl.tCut (tIfS (tAnd (tTest (tOp (rIn K false) (tOp (rIxT K) (tVar 4) (tC (.int 0))) (tVar 1))) (tTest (tOp (rIn K true) (tOp (rIxT K) (tVar 4) (tC (.int 1))) (tVar 1)))) (tDrop (tBM K "list" rAppend (tVar 1) (tCons (tOp (rIxT K) (tVar 4) (tC (.int 1))) tNil))) tNext) (tIfS (tAnd (tTest (tOp (rIn K false) (tOp (rIxT K) (tVar 4) (tC (.int 1))) (tVar 1))) (tTest (tOp (rIn K true) (tOp (rIxT K) (tVar 4) (tC (.int 0))) (tVar 1)))) (tDrop (tBM K "list" rAppend (tVar 1) (tCons (tOp (rIxT K) (tVar 4) (tC (.int 0))) tNil))) tNext))) (tIfS (tTest (tOp rEq (tCB (rLenQ K) (tCons (tVar 1) tNil)) (tVar 3))) tBreak tNext)))) (tRet (tCB (rTupL K) (tCons (tLc (iList K (tVar 0)) (gName 4) (tTest (tOp (rIn K false) (tOp (rIxT K) (tVar 4) (tC (.int 0))) (tVar 1))) (tVar 4) [4]) tNil)))))
theorem len_law_hanging {K : PySem.W.Frag} {vs : List V} {H : Hp} {Q : VK} {E : XK} (h : sp_law_hanging K vs H Q E) : vs.length = 1 := by
  obtain ⟨_, _, _, rfl, _⟩ := h; rfl
theorem pure_law_hanging {K : PySem.W.Frag} (vs : List V) (H : Hp) (Q : VK) (E : XK) (h : sp_law_hanging K vs H Q E) : t_law_hanging K E { nx := fun _ H' => Q .non H', rt := Q } (start N_law_hanging vs) H := by
  obtain ⟨ea, xs, es, rfl, hS, R, ok, l16, q⟩ := h
  unfold t_law_hanging
  have xl := R.1
  repeat walk_at "mst"
  walk_at "new"; rename_i ka nka H1 e1 s1
  repeat walk_at "mst"
  have k0 : Kn5 es [0] := ⟨by simp, by simp, fun x m => ⟨0, by simpa using m, .ground⟩⟩
  refine ⟨_, rfl, by decide, by decide, ?_⟩
  refine forK_range (n := Int.toNat 17) (fun i σ H' => ∃ (ks : List Int) (x2 x3 x4 : Option V), Ex H H' ∧ H' ka = some (.lst (ks.map V.int)) ∧ Kn5 es ks ∧ i + 1 ≤ ks.length ∧ σ = [some (.ref ea), some (.ref ka), x2, x3, x4]) ⟨[0], none, none, none, e1, s1, k0, Nat.le_refl _, rfl⟩ ?_ ?_
  · rintro i σ H2 hi ⟨ks, x2, x3, x4, e, hk, kn, il, rfl⟩
    have few := kn.few ok
    repeat walk_at "mst"
    rw [show (List.map V.int ks).length = ks.length from List.length_map _]
    refine ⟨ea, rfl, ⟨_, Evl.ex_l e hS⟩, forK_list (xs := xs) (fun j σ H' => ∃ (ls : List Int) (x4 : Option V), Ex H H' ∧ H' ka = some (.lst (ls.map V.int)) ∧ Kn5 es ls ∧ ks.length ≤ ls.length ∧ (ls.length = ks.length → ls = ks ∧ ∀ (k : Nat) (c : Edge), k < j → es[k]? = some c → ((c.1 : Int) ∈ ks ↔ (c.2.1 : Int) ∈ ks)) ∧ σ = [some (.ref ea), some (.ref ka), some (.int (i : Int)), some (.int (ks.length : Int)), x4]) ⟨ks, _, e, hk, kn, Nat.le_refl _, fun _ => ⟨rfl, fun k c h => absurd h (Nat.not_lt_zero _)⟩, rfl⟩ ?_ ?_ ?_⟩
    · rintro j σ H' _ ⟨ls, y4, e, _⟩; exact Evl.ex_l e hS
    · rintro j x σ H3 hx ⟨ls, y4, e3, hk3, kn3, le3, st3, rfl⟩
      have few3 := kn3.few ok
      have hj := (List.getElem?_eq_some_iff.mp hx).1
      have hc := List.getElem?_eq_getElem (l := es) (i := j) (by omega)
      obtain ⟨x', hx', u, rfl, hu⟩ := R.2 j _ hc
      rw [hx] at hx'
      cases hx'
      have mc := List.mem_of_getElem? hc
      generalize es[j]'(by omega) = c at *
      obtain ⟨one, other, col⟩ := c
      have hu3 := e3 _ _ hu
      refine k_cut (fun σ' H'' => ∃ ls' : List Int, Ex H H'' ∧ H'' ka = some (.lst (ls'.map V.int)) ∧ Kn5 es ls' ∧ ls.length ≤ ls'.length ∧ (ls'.length = ls.length → ls' = ls) ∧ ((one : Int) ∈ ls' → (other : Int) ∈ ls') ∧ σ' = [some (.ref ea), some (.ref ka), some (.int (i : Int)), some (.int (ks.length : Int)), some (.ref u)]) ?_ ?_
      · repeat walk_at "mst"
        refine k_iteI (fun z => ?_) (fun z => ?_)
        · repeat walk_at "mst"
          refine k_iteO (fun y => ?_) (fun y => ?_)
          · obtain ⟨k', ek, hg⟩ := kn3.hg _ z
            have ek : ((one : Nat) : Int) = (k' : Int) := ek
            have ek : one = k' := by omega
            subst ek
            repeat walk_at "mst"
            · rw [List.length_map]; exact fits' (by omega)
            refine ⟨ls ++ [(other : Int)], Evl.Ex.mut e3 nka, by rw [upd_same, List.map_append]; rfl, kn3.add y (Hangs.up mc hg), by rw [List.length_append]; omega, fun h => ?_, fun _ => List.mem_append_right _ (List.mem_singleton.mpr rfl), rfl⟩
            rw [List.length_append] at h
            have h : ls.length + 1 = ls.length := h
            omega
          · repeat walk_at "mst"
            exact ⟨ls, e3, hk3, kn3, Nat.le_refl _, fun _ => rfl, fun _ => y, rfl⟩
        · repeat walk_at "mst"
          exact ⟨ls, e3, hk3, kn3, Nat.le_refl _, fun _ => rfl, fun h => absurd h z, rfl⟩
      · rintro σ' H4 ⟨ls', e4, hk4, kn4, le4, st4, im4, rfl⟩
        have few4 := kn4.few ok
        have hu4 := e4 _ _ hu
        have fin : ∀ ls2 : List Int, ls'.length ≤ ls2.length → (ls2.length = ls'.length → ls2 = ls') → ((one : Int) ∈ ls2 ↔ (other : Int) ∈ ls2) → ks.length ≤ ls2.length ∧ (ls2.length = ks.length → ls2 = ks ∧ ∀ (k : Nat) (c : Edge), k < j + 1 → es[k]? = some c → ((c.1 : Int) ∈ ks ↔ (c.2.1 : Int) ∈ ks)) := by
          intro ls2 l2 s2 cl
          refine ⟨by omega, fun h => ?_⟩
          have a2 := s2 (by omega)
          have a4 := st4 (by omega)
          obtain ⟨a3, cl3⟩ := st3 (by omega)
          subst a3
          subst a4
          subst a2
          refine ⟨rfl, fun k c hk h => ?_⟩
          rcases Nat.lt_or_ge k j with l | l
          · exact cl3 k c l h
          · have ek : k = j := by omega
            subst ek
            rw [hc] at h
            cases h
            exact cl
        repeat walk_at "mst"
        refine k_iteI (fun z => ?_) (fun z => ?_)
        · repeat walk_at "mst"
          refine k_iteO (fun y => ?_) (fun y => ?_)
          · obtain ⟨k', ek, hg⟩ := kn4.hg _ z
            have ek : ((other : Nat) : Int) = (k' : Int) := ek
            have ek : other = k' := by omega
            subst ek
            repeat walk_at "mst"
            · rw [List.length_map]; exact fits' (by omega)
            obtain ⟨f1, f2⟩ := fin (ls' ++ [(one : Int)]) (by rw [List.length_append]; omega) (fun h => by
              rw [List.length_append] at h
              have h : ls'.length + 1 = ls'.length := h
              omega) ⟨fun _ => List.mem_append_left _ z, fun _ => List.mem_append_right _ (List.mem_singleton.mpr rfl)⟩
            exact ⟨ls' ++ [(one : Int)], _, Evl.Ex.mut e4 nka, by rw [upd_same, List.map_append]; rfl, kn4.add y (Hangs.down mc hg), f1, f2, rfl⟩
          · repeat walk_at "mst"
            obtain ⟨f1, f2⟩ := fin ls' (Nat.le_refl _) (fun _ => rfl) ⟨fun _ => z, fun _ => y⟩
            exact ⟨ls', _, e4, hk4, kn4, f1, f2, rfl⟩
        · repeat walk_at "mst"
          obtain ⟨f1, f2⟩ := fin ls' (Nat.le_refl _) (fun _ => rfl) ⟨fun h => im4 h, fun h => absurd h z⟩
          exact ⟨ls', _, e4, hk4, kn4, f1, f2, rfl⟩
    · rintro σ H3 ⟨ls, y4, e3, hk3, kn3, le3, st3, rfl⟩
      have few3 := kn3.few ok
      repeat walk_at "mst"
      rw [show (List.map V.int ls).length = ls.length from List.length_map _]
      refine k_iteD (fun z => ?_) (fun z => ?_)
      · obtain ⟨a3, cl3⟩ := st3 (by omega)
        subst a3
        have closed : ∀ c ∈ es, ((c.1 : Int) ∈ ls ↔ (c.2.1 : Int) ∈ ls) := fun c m => by
          obtain ⟨k, hk⟩ := List.getElem?_of_mem m
          exact cl3 k c (by rw [xl]; exact (List.getElem?_eq_some_iff.mp hk).1) hk
        have key : ∀ k : Nat, decide ((k : Int) ∈ ls) = true ↔ Hangs es k := fun k => by
          rw [decide_eq_true_iff]
          refine closed_eq (S := fun k : Nat => (k : Int) ∈ ls) kn3.z (fun k h => ?_) closed k
          obtain ⟨k', ek, hg⟩ := kn3.hg _ h
          have ek : k = k' := by omega
          rw [ek]; exact hg
        have hS3 := Evl.ex_l e3 hS
        repeat walk_at "mst"
        unfold tBreak
        dsimp only
        repeat walk_at "mst"
        refine ⟨ea, rfl, ⟨_, hS3⟩, lcR_list (keepF H fun k => decide ((k : Int) ∈ ls)) hS3 (fits' (by omega)) (fun x mx => ?_) fun L H4 nL e4 hL => ?_⟩
        · intro H'' e'' RR rr
          obtain ⟨i, hx⟩ := List.getElem?_of_mem mx
          have hi := (List.getElem?_eq_some_iff.mp hx).1
          have hc := List.getElem?_eq_getElem (l := es) (i := i) (by omega)
          obtain ⟨x', hx', at_⟩ := R.2 i _ hc
          rw [hx] at hx'
          cases hx'
          have kf := keepF_at (f := fun k => decide ((k : Int) ∈ ls)) at_
          obtain ⟨u, rfl, hu⟩ := at_
          generalize es[i]'(by omega) = ed at *
          obtain ⟨one, other, col⟩ := ed
          have hu' := e'' _ _ (e3 _ _ hu)
          have hk3'' := e'' _ _ hk3
          have kf : keepF H (fun k => decide ((k : Int) ∈ ls)) (.ref u) = if decide ((one : Int) ∈ ls) = true then some (.ref u) else none := kf
          rw [kf] at rr
          repeat walk_at "mst"
          refine ⟨rfl, ?_⟩
          repeat walk_at "mst"
          have hk'' := e'' _ _ hk3
          refine k_iteI (fun z => ?_) (fun z => ?_)
          · rw [if_pos (decide_eq_true (show (one : Int) ∈ ls from z))] at rr
            repeat walk_at "mst"
            exact rr _ (Evl.Ex.refl _)
          · rw [if_neg (by rw [decide_eq_true_iff]; exact z)] at rr
            repeat walk_at "mst"
            exact rr _ (Evl.Ex.refl _)
        · have kept := keep_es (f := fun k => decide ((k : Int) ∈ ls)) R
          rw [kept_by (f := fun k => decide ((k : Int) ∈ ls)) key] at kept
          have e34 := e3.trans e4
          repeat walk_at "mst"
          walk_at "new"; rename_i t nt H5 e5 s5
          exact q t _ H5 (e34.trans e5) s5 (kept.imp fun y c q => q.ex (e34.trans e5))
      · repeat walk_at "mst"
        refine ⟨ls, _, _, _, e3, hk3, kn3, by omega, rfl⟩
  · rintro σ H2 ⟨ks, x2, x3, x4, e, hk, kn, il, rfl⟩
    have := kn.few ok
    have : Int.toNat 17 = 17 := rfl
    omega
theorem use_hanging {K : PySem.W.Frag} {H : Hp} {Q : VK} {E : XK} {ea : Addr} {xs : List V} {es : List Edge} (hS : SqL K H ea xs) (R : EsAt H xs es) (ok : ∀ e ∈ es, OkE e) (l16 : es.length ≤ 16) (q : ∀ t ys H', Ex H H' → H' t = some (.tup ys) → EsAt H' ys (keptE es) → Q (.ref t) H') : sp_law_hanging K ([.ref ea] ++ []) H Q E := ⟨ea, xs, es, rfl, hS, R, ok, l16, q⟩
def sp_law_hedge_parts (K : PySem.W.Frag) : Sp := fun vs H Q _ => ∃ (t : Addr) (xs : List V) (es : List Edge), vs = [.ref t] ∧ H t = some (.tup xs) ∧ EsAt H xs es ∧ (∀ e ∈ es, OkE e) ∧ es.length ≤ 16 ∧ ∀ p ys H', H p = none → Ex H H' → H' p = some (.lst ys) → DsH H' ys (partsE es) → Q (.ref p) H'
local macro_rules | `(tactic| walk_at "new") => `(tactic| ((first | refine ⟨fits (Nat.le_of_ble_eq_true rfl), ?_⟩ | skip); intro p np; generalize hq : upd _ p _ = H1; have e1 := nx np hq; have s1 := nS hq; clear hq))
def nI (l : List Nat) : List Int := l.map fun p : Nat => (p : Int)
theorem mem_nI {l : List Nat} {p : Nat} : (p : Int) ∈ nI l ↔ p ∈ l := by
  unfold nI
  rw [List.mem_map]
  exact ⟨fun ⟨q, m, h⟩ => by have : q = p := by omega
                             rw [← this]; exact m, fun m => ⟨p, m, rfl⟩⟩
theorem nI_len (l : List Nat) : (nI l).length = l.length := by unfold nI; exact List.length_map _
def posV : V → Option V
  | .int i => if decide (0 < i) = true then some (.int i) else none
  | _ => none
def newV (ks : List Nat) : V → Option V
  | .int i => if (decide (0 < i) && !decide (i ∈ nI ks)) = true then some (.int i) else none
  | _ => none
def newE (ks : List Nat) (q : Edge) : List Nat := (nzK q).filter fun k => !decide (k ∈ ks)
theorem posV_list (e : Edge) : ([.int (e.1 : Int), .int (e.2.1 : Int)] : List V).filterMap posV = (nI (nzK e)).map V.int := by
  have one : ∀ k : Nat, posV (.int (k : Int)) = if decide (k ≠ 0) = true then some (.int (k : Int)) else none := fun k => by
    show (if decide ((0 : Int) < (k : Int)) = true then some (V.int (k : Int)) else none) = _
    by_cases h : k = 0
    · subst h; rfl
    · have h2 : (0 : Int) < (k : Int) := by omega
      rw [if_pos (decide_eq_true h2), if_pos (decide_eq_true h)]
  unfold nzK nI
  rw [List.filterMap_cons, List.filterMap_cons, one, one, List.filter_cons, List.filter_cons]
  by_cases h1 : e.1 = 0 <;> by_cases h2 : e.2.1 = 0 <;> simp [h1, h2]
theorem newV_list (ks : List Nat) (e : Edge) : ([.int (e.1 : Int), .int (e.2.1 : Int)] : List V).filterMap (newV ks) = (nI (newE ks e)).map V.int := by
  have one : ∀ k : Nat, newV ks (.int (k : Int)) = if (decide (k ≠ 0) && !decide (k ∈ ks)) = true then some (.int (k : Int)) else none := fun k => by
    show (if (decide ((0 : Int) < (k : Int)) && !decide ((k : Int) ∈ nI ks)) = true then some (V.int (k : Int)) else none) = _
    have h1 : decide ((0 : Int) < (k : Int)) = decide (k ≠ 0) := decide_eq_decide.mpr ⟨fun h => by omega, fun h => by omega⟩
    have h2 : decide ((k : Int) ∈ nI ks) = decide (k ∈ ks) := decide_eq_decide.mpr mem_nI
    rw [h1, h2]
  unfold newE nzK nI
  rw [List.filter_filter, List.filterMap_cons, List.filterMap_cons, one, one, List.filter_cons, List.filter_cons]
  by_cases h1 : e.1 = 0 <;> by_cases h2 : e.2.1 = 0 <;> by_cases h3 : e.1 ∈ ks <;> by_cases h4 : e.2.1 ∈ ks <;> simp [h1, h2, h3, h4]
/-- knots found so far -/
structure Kn7 (es : List Edge) (e : Edge) (ks rest : List Nat) : Prop where
  sp : ks = nzK e ++ rest
  nd : rest.Nodup
  sn : ∀ k ∈ ks, Sn es e k
theorem sn_small {es : List Edge} {e : Edge} (ok : ∀ e ∈ es, OkE e) (me : e ∈ es) {k : Nat} (h : Sn es e k) : k ≤ 15 := by
  induction h with
  | base m =>
    obtain ⟨_, r | r⟩ := mem_nz.mp m
    · rw [r]; exact (ok e me).1
    · rw [r]; exact (ok e me).2.1
  | up m _ _ => exact (ok _ (mem_up.mp m).1).2.1
  | down m _ _ => exact (ok _ (mem_up.mp m).1).1
theorem Kn7.few {es : List Edge} {e : Edge} {ks rest : List Nat} (h : Kn7 es e ks rest) (ok : ∀ e ∈ es, OkE e) (me : e ∈ es) : rest.length ≤ 16 ∧ ks.length ≤ 18 := by
  have h1 := few_knots h.nd fun k m => sn_small ok me (h.sn k (by rw [h.sp]; exact List.mem_append_right _ m))
  refine ⟨h1, ?_⟩
  have h2 : (nzK e).length ≤ 2 := by unfold nzK; exact List.length_filter_le _ _
  rw [h.sp, List.length_append]
  omega
theorem newE_mem {ks : List Nat} {q : Edge} {k : Nat} : k ∈ newE ks q ↔ k ∈ nzK q ∧ k ∉ ks := by
  unfold newE
  rw [List.mem_filter]
  simp
theorem Kn7.step {es : List Edge} {e q : Edge} {ks rest : List Nat} (h : Kn7 es e ks rest) (m : q ∈ es) (t : q.1 ∈ ks ∨ q.2.1 ∈ ks) : Kn7 es e (ks ++ newE ks q) (rest ++ newE ks q) ∧ ∀ k ∈ nzK q, k ∈ ks ++ newE ks q := by
  have tt : Tch es e q := t.elim (fun h' => Or.inl (h.sn _ h')) fun h' => Or.inr (h.sn _ h')
  refine ⟨⟨by rw [h.sp, List.append_assoc], ?_, fun k mk => ?_⟩, fun k mk => ?_⟩
  · refine List.nodup_append.mpr ⟨h.nd, ?_, fun a ma b mb => ?_⟩
    · unfold newE nzK
      rw [List.filter_filter, List.filter_cons, List.filter_cons]
      rcases t with t | t
      · rw [if_neg (by simp [t])]
        split <;> simp
      · have : ¬ (!decide (q.2.1 ∈ ks) && decide (q.2.1 ≠ 0)) = true := by simp [t]
        rw [if_neg this]
        split <;> simp
    · rintro rfl
      exact (newE_mem.mp mb).2 (by rw [h.sp]; exact List.mem_append_right _ ma)
  · rcases List.mem_append.mp mk with mk | mk
    · exact h.sn k mk
    · exact sn_ends m tt k (newE_mem.mp mk).1
  · by_cases z : k ∈ ks
    · exact List.mem_append_left _ z
    · exact List.mem_append_right _ (newE_mem.mpr ⟨mk, z⟩)
def Cl7 (ks : List Nat) (q : Edge) : Prop := (q.1 ∈ ks ∨ q.2.1 ∈ ks) → ∀ k ∈ nzK q, k ∈ ks
theorem Kn7.all {es : List Edge} {e : Edge} {ks rest : List Nat} (h : Kn7 es e ks rest) (cl : ∀ q ∈ es, Cl7 ks q) (k : Nat) : k ∈ ks ↔ Sn es e k := by
  refine from_eq (S := fun k => k ∈ ks) (fun k m => by rw [h.sp]; exact List.mem_append_left _ m) h.sn (fun q m => ?_) k
  obtain ⟨mq, h1, h2⟩ := mem_up.mp m
  exact ⟨fun z => cl q mq (Or.inl z) _ (mem_nz.mpr ⟨h2, Or.inr rfl⟩), fun z => cl q mq (Or.inr z) _ (mem_nz.mpr ⟨h1, Or.inl rfl⟩)⟩
open Classical in
noncomputable def inPN (es : List Edge) (i p : Nat) : Option V := if InP es i p then some (.int (p : Int)) else none
open Classical in
theorem inPN_list (es : List Edge) (i : Nat) : (List.range es.length).filterMap (inPN es i) = (nI (togE es i)).map V.int := by
  unfold togE nI
  rw [List.map_map, ← List.filterMap_eq_map, List.filterMap_filter]
  refine fm_congr fun p m => ?_
  unfold inPN
  by_cases h : InP es i p
  · rw [if_pos h, if_pos (decide_eq_true h)]; rfl
  · rw [if_neg h, if_neg (by simpa using h)]
theorem k_orP2 {P A B : Prop} {b : Bool} (ha : P → A) (h1 : b = true → P) (h2 : b = false → (P → A) → B) : if b = true then A else B := by
  cases b
  · exact h2 rfl ha
  · exact ha (h1 rfl)
theorem nI_app (a b : List Nat) : (nI a).map V.int ++ (nI b).map V.int = (nI (a ++ b)).map V.int := by
  unfold nI
  rw [List.map_append, List.map_append]
theorem nI_map (l : List Nat) : (nI l).map V.int = l.map fun p : Nat => V.int (p : Int) := by
  unfold nI
  rw [List.map_map]; rfl
theorem nI_mapl (l : List Nat) : ((nI l).map V.int).length = l.length := by rw [List.length_map, nI_len]
theorem pt_len7 (es : List Edge) : ∀ n, (ptTo es n).1.length ≤ n
  | 0 => Nat.le_refl _
  | n + 1 => by
    have h := pt_len7 es n
    show (ptStep es (ptTo es n) n).1.length ≤ _
    unfold ptStep
    split
    · omega
    · rw [List.length_append, List.length_singleton]; omega
theorem pt_len2 {es : List Edge} {n : Nat} (h : n ≤ es.length) : (ptTo es n).2.length ≤ es.length := by
  have o := pt_ok h
  have := nodup_len _ (List.range es.length) o.nd fun x m => List.mem_range.mpr (o.lt x m)
  rw [List.length_range] at this
  exact this
abbrev N_law_hedge_parts : List Str := ["edges", "found", "taken", "first", "knots", "knot", "turn", "many", "edge", "part", "k"]
def t_law_hedge_parts (K : PySem.W.Frag) (E : XK) : TS := (tSeq (tAsg (tLst tNil) (gName 1)) (tSeq (tAsg (tLst tNil) (gName 2)) (tSeq (tFor (iRng1 (tCons (tCB (rLenQ K) (tCons (tVar 0) tNil)) tNil)) (gName 3) (tIfS (tTest (tOp (rIn K true) (tVar 3) (tVar 2))) (tSeq (tAsg (tLc (iTup K (tSl (rSlA K) (tOp (rIxT K) (tVar 0) (tVar 3)) tNoPart (tPart (tC (.int 2))))) (gName 5) (tTest (tOp rGtI (tVar 5) (tC (.int 0)))) (tVar 5) [5]) (gName 4)) (tSeq (tFor (iRng1 (tCons (tC (.int 17)) tNil)) (gName 6) (tSeq (tAsg (tCB (rLenQ K) (tCons (tVar 4) tNil)) (gName 7)) (tSeq (tFor (iTup K (tVar 0)) (gName 8) (tIfS (tOr (tTest (tOp (rIn K false) (tOp (rIxT K) (tVar 8) (tC (.int 0))) (tVar 4))) (tTest (tOp (rIn K false) (tOp (rIxT K) (tVar 8) (tC (.int 1))) (tVar 4)))) (tAsg (tOp rCat (tVar 4) (tLc (iTup K (tSl (rSlA K) (tVar 8) tNoPart (tPart (tC (.int 2))))) (gName 5) (tAnd (tTest (tOp rGtI (tVar 5) (tC (.int 0)))) (tTest (tOp (rIn K true) (tVar 5) (tVar 4)))) (tVar 5) [5])) (gName 4)) tNext)) (tIfS (tTest (tOp rEq (tCB (rLenQ K) (tCons (tVar 4) tNil)) (tVar 7))) tBreak tNext)))) (tSeq (tAsg (tLc (iRng1 (tCons (tCB (rLenQ K) (tCons (tVar 0) tNil)) tNil)) (gName 10) (tOr (tTest (tOp rEq (tVar 10) (tVar 3))) (tOr (tTest (tOp (rIn K false) (tOp (rIxT K) (tOp (rIxT K) (tVar 0) (tVar 10)) (tC (.int 0))) (tVar 4))) (tTest (tOp (rIn K false) (tOp (rIxT K) (tOp (rIxT K) (tVar 0) (tVar 10)) (tC (.int 1))) (tVar 4))))) (tVar 10) [10]) (gName 9)) (tSeq (tDrop (tBM K "list" rAppend (tVar 1) (tCons (tTup (tCons (tC (.str "hedge")) (tCons (tCB (rTupL K) (tCons (tLc (iList K (tVar 9)) (gName 10) tYes (tOp (rIxT K) (tVar 0) (tVar 10)) [10]) tNil)) tNil))) tNil))) (tAsg (tOp rCat (tVar 2) (tVar 9)) (gName 2)))))) tNext)) (tRet (tVar 1)))))
theorem len_law_hedge_parts {K : PySem.W.Frag} {vs : List V} {H : Hp} {Q : VK} {E : XK} (h : sp_law_hedge_parts K vs H Q E) : vs.length = 1 := by
  obtain ⟨_, _, _, rfl, _⟩ := h; rfl
theorem pure_law_hedge_parts {K : PySem.W.Frag} (vs : List V) (H : Hp) (Q : VK) (E : XK) (h : sp_law_hedge_parts K vs H Q E) : t_law_hedge_parts K E { nx := fun _ H' => Q .non H', rt := Q } (start N_law_hedge_parts vs) H := by
  obtain ⟨t, xs, es, rfl, ht, R, ok, l16, q⟩ := h
  have xl := R.1
  unfold t_law_hedge_parts
  repeat walk_at "mst"
  walk_at "new"; rename_i fp nfp H1 e1 s1
  repeat walk_at "mst"
  walk_at "new"; rename_i ta0 nta0 H2 e2 s2
  have e02 := e1.trans e2
  have hf2 := e2 _ _ s1
  have ht2 := e02 _ _ ht
  repeat walk_at "mst"
  refine ⟨_, rfl, by omega, by omega, ?_⟩
  rw [Int.toNat_natCast]
  refine forK_range (fun n σ H' => ∃ (zs : List V) (ta : Addr) (x3 x4 x5 x6 x7 x8 x9 x10 : Option V), Ex H H' ∧ H' fp = some (.lst zs) ∧ fp ≠ ta ∧ H' ta = some (.lst ((nI (ptTo es n).2).map V.int)) ∧ DsH H' zs ((ptTo es n).1.map (pickE es)) ∧ σ = [some (.ref t), some (.ref fp), some (.ref ta), x3, x4, x5, x6, x7, x8, x9, x10]) ⟨[], ta0, none, none, none, none, none, none, none, none, e02, hf2, ne_of_none s1 nta0, s2, .nil, rfl⟩ ?_ ?_
  · rintro n σ H3 hn ⟨zs, ta, x3, x4, x5, x6, x7, x8, x9, x10, e3, hf3, nft, hta3, ds, rfl⟩
    have hn : n < es.length := by omega
    have ht3 := e3 _ _ ht
    have hc := List.getElem?_eq_getElem (l := es) (i := n) hn
    obtain ⟨x', hx', u, rfl, hu⟩ := R.2 n _ hc
    have me := List.mem_of_getElem? hc
    generalize hed : es[n] = ed at *
    have hu3 := e3 _ _ hu
    repeat walk_at "mst"
    refine k_iteO (fun z => ?_) (fun z => ?_)
    · have nin : n ∉ (ptTo es n).2 := fun m => z (mem_nI.mpr m)
      repeat walk_at "mst"
      refine k_ixT (k_st ht3) (atI_nat hx') ?_
      repeat walk_at "mst"
      refine k_slH hu3 fun p1 H4 e4 h4 => ?_
      rw [show (2 : Int) = ((2 : Nat) : Int) from rfl, cut_cut (by show 2 ≤ 3; decide)] at h4
      have h4 : H4 p1 = some (.tup [.int (ed.1 : Int), .int (ed.2.1 : Int)]) := h4
      repeat walk_at "mst"
      refine ⟨p1, rfl, ⟨_, k_st h4⟩, lcR_tup posV (k_st h4) (fits' (by show 2 ≤ 3000; decide)) (fun x mx => ?_) fun S H5 nS e5 hS => ?_⟩
      · intro H'' e'' RR rr
        have ix : ∃ k : Nat, x = .int (k : Int) := by
          simp only [List.mem_cons, List.not_mem_nil, or_false] at mx
          rcases mx with rfl | rfl <;> exact ⟨_, rfl⟩
        obtain ⟨k, rfl⟩ := ix
        have rr := rr _ (Evl.Ex.refl _)
        have rr : RR (if decide ((0 : Int) < (k : Int)) = true then some (V.int (k : Int)) else none) H'' := rr
        repeat walk_at "mst"
        refine ⟨rfl, ?_⟩
        repeat walk_at "mst"
        refine k_iteD (fun z => ?_) (fun z => ?_)
        · rw [if_pos (decide_eq_true (show (0 : Int) < (k : Int) by omega))] at rr
          repeat walk_at "mst"
          exact rr
        · rw [if_neg (by simpa using z)] at rr
          repeat walk_at "mst"
          exact rr
      rw [posV_list] at hS
      have e35 := e4.trans e5
      repeat walk_at "mst"
      refine ⟨_, rfl, by decide, by decide, ?_⟩
      refine forK_range (n := Int.toNat 17) (fun i σ H' => ∃ (ka : Addr) (ks rest : List Nat) (y5 y6 y7 y8 : Option V), Ex H3 H' ∧ H' ka = some (.lst ((nI ks).map V.int)) ∧ Kn7 es ed ks rest ∧ i ≤ rest.length ∧ σ = [some (.ref t), some (.ref fp), some (.ref ta), some (.int (n : Int)), some (.ref ka), y5, y6, y7, y8, x9, x10]) ⟨S, nzK ed, [], x5, x6, x7, x8, e35, hS, ⟨(List.append_nil _).symm, List.nodup_nil, fun k m => .base m⟩, Nat.zero_le _, rfl⟩ ?_ ?_
      · rintro i σ H6 hi ⟨ka, ks, rest, y5, y6, y7, y8, e6, hk, kn, il, rfl⟩
        have few := kn.few ok me
        have ht6 := e6 _ _ ht3
        repeat walk_at "mst"
        rw [nI_mapl]
        refine ⟨t, rfl, ⟨_, k_st ht6⟩, forK_tup (xs := xs) (fun j σ H' => ∃ (kb : Addr) (ls r2 : List Nat) (y5 y8 : Option V), Ex H3 H' ∧ H' kb = some (.lst ((nI ls).map V.int)) ∧ Kn7 es ed ls r2 ∧ rest.length ≤ r2.length ∧ (r2.length = rest.length → ls = ks ∧ ∀ (m : Nat) (q : Edge), m < j → es[m]? = some q → Cl7 ks q) ∧ σ = [some (.ref t), some (.ref fp), some (.ref ta), some (.int (n : Int)), some (.ref kb), y5, some (.int (i : Int)), some (.int (ks.length : Int)), y8, x9, x10]) ⟨ka, ks, rest, y5, y8, e6, hk, kn, Nat.le_refl _, fun _ => ⟨rfl, fun m q h => absurd h (Nat.not_lt_zero _)⟩, rfl⟩ ?_ ?_ ?_⟩
        · rintro j σ H' _ ⟨kb, ls, r2, z5, z8, e7, _⟩; exact k_st (e7 _ _ ht3)
        · rintro j x σ H7 hx ⟨kb, ls, r2, z5, z8, e7, hkb, kn2, l1, st, rfl⟩
          have few2 := kn2.few ok me
          have hj := (List.getElem?_eq_some_iff.mp hx).1
          have hcj := List.getElem?_eq_getElem (l := es) (i := j) (by omega)
          obtain ⟨x', hx', v, rfl, hv⟩ := R.2 j _ hcj
          rw [hx] at hx'
          cases hx'
          have mq := List.mem_of_getElem? hcj
          generalize hfd : es[j]'(by omega) = f at *
          have hv7 := e7 _ _ (e3 _ _ hv)
          repeat walk_at "mst"
          refine k_orP2 (P := f.1 ∈ ls ∨ f.2.1 ∈ ls) (fun tch => ?_) (fun h => Or.inl (mem_nI.mp (of_decide_eq_true h))) (fun nf fA => ?_)
          · obtain ⟨kn3, cl3⟩ := kn2.step mq tch
            have few3 := kn3.few ok me
            repeat walk_at "mst"
            refine k_slH hv7 fun p2 H8 e8 h8 => ?_
            rw [show (2 : Int) = ((2 : Nat) : Int) from rfl, cut_cut (by show 2 ≤ 3; decide)] at h8
            have h8 : H8 p2 = some (.tup [.int (f.1 : Int), .int (f.2.1 : Int)]) := h8
            have hkb8 := e8 _ _ hkb
            repeat walk_at "mst"
            refine ⟨p2, rfl, ⟨_, k_st h8⟩, lcR_tup (newV ls) (k_st h8) (fits' (by show 2 ≤ 3000; decide)) (fun x mx => ?_) fun N H9 nN e9 hN => ?_⟩
            · intro H'' e'' RR rr
              have ix : ∃ k : Nat, x = .int (k : Int) := by
                simp only [List.mem_cons, List.not_mem_nil, or_false] at mx
                rcases mx with rfl | rfl <;> exact ⟨_, rfl⟩
              obtain ⟨k, rfl⟩ := ix
              have rr := rr _ (Evl.Ex.refl _)
              have rr : RR (if (decide ((0 : Int) < (k : Int)) && !decide ((k : Int) ∈ nI ls)) = true then some (V.int (k : Int)) else none) H'' := rr
              have hkb'' := e'' _ _ hkb8
              repeat walk_at "mst"
              refine ⟨rfl, ?_⟩
              repeat walk_at "mst"
              refine k_iteD (fun z => ?_) (fun z => ?_)
              · rw [decide_eq_true (show (0 : Int) < (k : Int) by omega), Bool.true_and] at rr
                repeat walk_at "mst"
                refine k_iteO (fun y => ?_) (fun y => ?_)
                · rw [if_pos (by simpa using y)] at rr
                  repeat walk_at "mst"
                  exact rr
                · rw [if_neg (by simpa using y)] at rr
                  repeat walk_at "mst"
                  exact rr
              · rw [decide_eq_false (show ¬ (0 : Int) < (k : Int) by omega), Bool.false_and, if_neg (by decide)] at rr
                repeat walk_at "mst"
                exact rr
            rw [newV_list] at hN
            repeat walk_at "mst"
            refine n_cat (e9 _ _ hkb8) hN (fits (by rw [nI_mapl, nI_mapl]; have h := few3.2; rw [List.length_append] at h; omega)) fun kc HA nkc eA hkc => ?_
            rw [nI_app] at hkc
            repeat walk_at "mst"
            refine ⟨kc, _, _, _, _, (e7.trans e8).trans (e9.trans eA), hkc, kn3, by rw [List.length_append]; omega, fun h => ?_, rfl⟩
            rw [List.length_append] at h
            have h0 : (newE ls f).length = 0 := by omega
            have hnil := List.length_eq_zero_iff.mp h0
            obtain ⟨eq, cl⟩ := st (by omega)
            rw [hnil, List.append_nil] at cl3 ⊢
            subst eq
            refine ⟨rfl, fun m q hm hq => ?_⟩
            rcases Nat.lt_or_ge m j with l | l
            · exact cl m q l hq
            · have ej : m = j := by omega
              subst ej
              rw [hcj] at hq
              cases hq
              exact fun _ => cl3
          · repeat walk_at "mst"
            refine k_iteI (fun z => fA (Or.inr (mem_nI.mp z))) (fun z => ?_)
            repeat walk_at "mst"
            refine ⟨kb, ls, r2, _, _, e7, hkb, kn2, l1, fun h => ?_, rfl⟩
            obtain ⟨eq, cl⟩ := st h
            subst eq
            refine ⟨rfl, fun m q hm hq => ?_⟩
            rcases Nat.lt_or_ge m j with l | l
            · exact cl m q l hq
            · have ej : m = j := by omega
              subst ej
              rw [hcj] at hq
              cases hq
              have n1 : f.1 ∉ ls := fun h => by
                have h : decide ((f.1 : Int) ∈ nI ls) = true := decide_eq_true (mem_nI.mpr h)
                have nf : decide ((f.1 : Int) ∈ nI ls) = false := nf
                rw [h] at nf; cases nf
              exact fun h => absurd h fun h => h.elim n1 fun h => z (mem_nI.mpr h)
        · rintro σ H7 ⟨kb, ls, r2, z5, z8, e7, hkb, kn2, l1, st, rfl⟩
          have few2 := kn2.few ok me
          have lsl : ls.length = (nzK ed).length + r2.length := by rw [kn2.sp, List.length_append]
          have ksl : ks.length = (nzK ed).length + rest.length := by rw [kn.sp, List.length_append]
          repeat walk_at "mst"
          rw [nI_mapl]
          refine k_iteD (fun y => ?_) (fun y => ?_)
          · obtain ⟨eq, cl⟩ := st (by omega)
            subst eq
            have key := kn2.all fun q m => by
              obtain ⟨j, hj⟩ := List.getElem?_of_mem m
              exact cl j q (by rw [xl]; exact (List.getElem?_eq_some_iff.mp hj).1) hj
            have ht7 := e7 _ _ ht3
            repeat walk_at "mst"
            unfold tBreak
            dsimp only
            repeat walk_at "mst"
            rw [xl]
            refine ⟨_, rfl, by omega, by omega, ?_⟩
            rw [Int.toNat_natCast]
            refine lcR_rng (inPN es n) (fits' (by omega)) (fun p hp => ?_) fun P H8 nP e8 hP => ?_
            · intro H'' e'' RR rr
              have hcp := List.getElem?_eq_getElem (l := es) (i := p) hp
              obtain ⟨x', hxp, v, rfl, hv⟩ := R.2 p _ hcp
              generalize hfd : es[p] = f at *
              have rr := rr _ (Evl.Ex.refl _)
              have yes : InP es n p → RR (some (.int (p : Int))) H'' := fun h => by unfold inPN at rr; rw [if_pos h] at rr; exact rr
              have no : ¬ InP es n p → RR none H'' := fun h => by unfold inPN at rr; rw [if_neg h] at rr; exact rr
              have ht'' := e'' _ _ ht7
              have hv'' := e'' _ _ (e7 _ _ (e3 _ _ hv))
              have hkb'' := e'' _ _ hkb
              repeat walk_at "mst"
              refine ⟨rfl, ?_⟩
              repeat walk_at "mst"
              refine k_iteD (fun z => ?_) (fun z => ?_)
              · repeat walk_at "mst"
                exact yes (Or.inl (by omega))
              · repeat walk_at "mst"
                refine k_ixT (k_st ht'') (atI_nat hxp) ?_
                repeat walk_at "mst"
                refine k_iteI (fun z1 => ?_) (fun z1 => ?_)
                · repeat walk_at "mst"
                  exact yes (Or.inr ⟨_, _, hc, hcp, Or.inl ((key _).mp (mem_nI.mp z1))⟩)
                · repeat walk_at "mst"
                  refine k_ixT (k_st ht'') (atI_nat hxp) ?_
                  repeat walk_at "mst"
                  refine k_iteI (fun z2 => ?_) (fun z2 => ?_)
                  · repeat walk_at "mst"
                    exact yes (Or.inr ⟨_, _, hc, hcp, Or.inr ((key _).mp (mem_nI.mp z2))⟩)
                  · repeat walk_at "mst"
                    refine no ?_
                    rintro (h | ⟨e', q', he', hq', tt⟩)
                    · exact z (by omega)
                    · rw [hc] at he'
                      rw [hcp] at hq'
                      cases he'; cases hq'
                      rcases tt with tt | tt
                      · exact z1 (mem_nI.mpr ((key _).mpr tt))
                      · exact z2 (mem_nI.mpr ((key _).mpr tt))
            · rw [inPN_list] at hP
              have st1 : (ptTo es (n + 1)).1 = (ptTo es n).1 ++ [togE es n] := by show (ptStep es (ptTo es n) n).1 = _; rw [pt_out nin]
              have st2 : (ptTo es (n + 1)).2 = (ptTo es n).2 ++ togE es n := by show (ptStep es (ptTo es n) n).2 = _; rw [pt_out nin]
              have tl2 := pt_len2 (es := es) (n := n + 1) (by omega)
              rw [st2] at tl2
              rw [st1, st2]
              have ts := tog_len es n
              have tl : ∀ p ∈ togE es n, p < es.length := fun p m => (mem_tog.mp m).1
              generalize togE es n = tg at *
              have e38 := e7.trans e8
              have hf8 := e38 _ _ hf3
              have hta8 := e38 _ _ hta3
              have ht8 := e38 _ _ ht3
              have zl : zs.length ≤ 16 := by
                have := ds.1
                rw [List.length_map] at this
                have := pt_len7 es n
                omega
              repeat walk_at "mst"
              rw [nI_map] at hP
              refine ⟨P, rfl, ⟨_, k_sq hP⟩, lcR_list (itemV xs) (k_sq hP) (by rw [List.length_map]; exact fits' (by omega)) (fun x mx => ?_) fun L H9 nL e9 hL => ?_⟩
              · intro H'' e'' RR rr
                obtain ⟨p, mp, rfl⟩ := List.mem_map.mp mx
                have pl := tl p mp
                have hg := List.getElem?_eq_getElem (l := xs) (i := p) (by omega)
                have rr := rr _ (Evl.Ex.refl _)
                have iv : itemV xs (.int (p : Int)) = some (xs[p]'(by omega)) := hg
                rw [iv] at rr
                have ht'' := e'' _ _ ht8
                repeat walk_at "mst"
                refine ⟨rfl, ?_⟩
                unfold tYes
                repeat walk_at "mst"
                refine k_ixT (k_st ht'') (atI_nat hg) ?_
                exact rr
              rw [itemV_list] at hL
              repeat walk_at "mst"
              walk_at "new"; rename_i lt nlt HA eA hlt
              repeat walk_at "mst"
              walk_at "new"; rename_i vd nvd HB eB hvd
              have e8B := (e9.trans eA).trans eB
              have e3B := e38.trans e8B
              have du : DuH HB (.ref vd) (pickE es tg) := ⟨vd, lt, _, rfl, hvd, eB _ _ hlt, (pick_es R tg).imp fun y c q => q.ex (e3.trans e3B)⟩
              have hfB := e8B _ _ hf8
              have htaB := e8B _ _ hta8
              have hPB := e8B _ _ hP
              have dsB := ds.imp fun y c q => q.ex e3B
              have nPf : P ≠ fp := fun h => by rw [h, e7 _ _ hf3] at nP; cases nP
              repeat walk_at "mst"
              · exact fits' (by omega)
              have fx := upd_fx (o1 := HO.lst (zs ++ [.ref vd])) hfB (fun h => h)
              have eM : Ex H (upd HB fp (HO.lst (zs ++ [.ref vd]))) := Evl.Ex.mut (e3.trans e3B) nfp
              have hfC : upd HB fp (HO.lst (zs ++ [.ref vd])) fp = some (HO.lst (zs ++ [.ref vd])) := upd_same
              have htaC := (upd_ne (H := HB) (o := HO.lst (zs ++ [.ref vd])) nft.symm).trans htaB
              have hPC := (upd_ne (H := HB) (o := HO.lst (zs ++ [.ref vd])) nPf).trans hPB
              have dsC : DsH (upd HB fp (HO.lst (zs ++ [.ref vd]))) (zs ++ [.ref vd]) (((ptTo es n).1 ++ [tg]).map (pickE es)) := by
                rw [List.map_append]
                exact (dsB.imp fun y c q => q.fx fx).app (.one (du.fx fx))
              generalize upd HB fp (HO.lst (zs ++ [V.ref vd])) = HC at *
              rw [← nI_map] at hPC
              repeat walk_at "mst"
              refine n_cat htaC hPC (fits (by rw [nI_mapl, nI_mapl]; rw [List.length_append] at tl2; omega)) fun tb HD ntb eD htb => ?_
              rw [nI_app] at htb
              repeat walk_at "mst"
              exact ⟨_, tb, _, _, _, _, _, _, _, _, eM.trans eD, eD _ _ hfC, ne_of_none hfC ntb, htb, dsC.imp fun y c q => q.ex eD, rfl⟩
          · repeat walk_at "mst"
            exact ⟨kb, ls, r2, _, _, _, _, e7, hkb, kn2, by omega, rfl⟩
      · rintro σ H6 ⟨ka, ks, rest, y5, y6, y7, y8, e6, hk, kn, il, rfl⟩
        have := kn.few ok me
        have : Int.toNat 17 = 17 := rfl
        omega
    · have yin : n ∈ (ptTo es n).2 := mem_nI.mp z
      have st : ptTo es (n + 1) = ptTo es n := by show ptStep es (ptTo es n) n = _; rw [pt_in yin]
      rw [st]
      repeat walk_at "mst"
      exact ⟨zs, ta, _, _, _, _, _, _, _, _, e3, hf3, nft, hta3, ds, rfl⟩
  · rintro σ H3 ⟨zs, ta, x3, x4, x5, x6, x7, x8, x9, x10, e3, hf3, nft, hta3, ds, rfl⟩
    repeat walk_at "mst"
    rw [xl] at ds
    exact q fp zs H3 nfp e3 hf3 ds
theorem use_lhparts {K : PySem.W.Frag} {H : Hp} {Q : VK} {E : XK} {t : Addr} {xs : List V} {es : List Edge} (ht : H t = some (.tup xs)) (R : EsAt H xs es) (ok : ∀ e ∈ es, OkE e) (l16 : es.length ≤ 16) (q : ∀ p ys H', H p = none → Ex H H' → H' p = some (.lst ys) → DsH H' ys (partsE es) → Q (.ref p) H') : sp_law_hedge_parts K ([.ref t] ++ []) H Q E := ⟨t, xs, es, rfl, ht, R, ok, l16, q⟩
/-- the same nested tuples of texts and ints, at most n deep -/
def SameD (K : PySem.W.Frag) (H : Hp) : Nat → V → V → Prop
  | 0, _, _ => False
  | n + 1, x, y => (∃ s, x = .str s ∧ y = .str s ∧ PyData.strOk s = true) ∨ (∃ i, x = .int i ∧ y = .int i) ∨ ∃ a b xs ys, x = .ref a ∧ y = .ref b ∧ H a = some (.tup xs) ∧ H b = some (.tup ys) ∧ xs.length = ys.length ∧ xs.length ≤ 1000 ∧ ∀ (k : Nat) (x' y' : V), xs[k]? = some x' → ys[k]? = some y' → SameD K H n x' y'
def sp_law_same (K : PySem.W.Frag) (n : Nat) : Sp := fun vs H Q _ => ∃ x y, vs = [x, y] ∧ SameD K H n x y ∧ Q (.bl true) H
abbrev N_law_same : List Str := ["told", "due", "k"]
def t_law_same (K : PySem.W.Frag) (n : Nat) (E : XK) : TS := (tSeq (tIfS (tB (tCB (rIsi K) (tCons (tVar 1) (tCons (tC (.ty "tuple")) tNil)))) (tSeq (tIfS (tOr (tNot (tB (tCB (rIsi K) (tCons (tVar 0) (tCons (tC (.ty "tuple")) tNil))))) (tTest (tOp rNe (tCB (rLenQ K) (tCons (tVar 0) tNil)) (tCB (rLenQ K) (tCons (tVar 1) tNil))))) (tRet (tC (.bl false))) tNext) (tSeq (tFor (iRng1 (tCons (tCB (rLenQ K) (tCons (tVar 1) tNil)) tNil)) (gName 2) (tIfS (tNot (tB (tCall (sp_law_same K n) [] E0 (tCons (tOp (rIxT K) (tVar 0) (tVar 2)) (tCons (tOp (rIxT K) (tVar 1) (tVar 2)) tNil))))) (tRet (tC (.bl false))) tNext)) (tRet (tC (.bl true))))) tNext) (tSeq (tIfS (tB (tCB (rIsi K) (tCons (tVar 1) (tCons (tC (.ty "str")) tNil)))) (tRet (tAndV (tCB (rIsi K) (tCons (tVar 0) (tCons (tC (.ty "str")) tNil))) (tOp (rEqD K) (tVar 0) (tVar 1)))) tNext) (tRet (tAndV (tCB (rIsi K) (tCons (tVar 0) (tCons (tC (.ty "int")) tNil))) (tAndV (tNotV (tCB (rIsi K) (tCons (tVar 0) (tCons (tC (.ty "bool")) tNil)))) (tOp (rEqD K) (tVar 0) (tVar 1)))))))
theorem len_law_same {K : PySem.W.Frag} {n : Nat} {vs : List V} {H : Hp} {Q : VK} {E : XK} (h : sp_law_same K n vs H Q E) : vs.length = 2 := by
  obtain ⟨_, _, rfl, _⟩ := h; rfl
theorem no_law_same {K : PySem.W.Frag} {vs : List V} {H : Hp} {Q : VK} {E : XK} : ¬ sp_law_same K 0 vs H Q E := fun ⟨_, _, _, h, _⟩ => h
theorem same_scal {K : PySem.W.Frag} {H : Hp} {Q : VK} {x : V} (h : ∃ d, Dp K H x d ∧ SeqAt.shaped d = true ∧ PyData.eqv d d = true) (q : Q (.bl true) H) : rEqD K x x H Q := by
  obtain ⟨d, h1, h2, h3⟩ := h
  exact ⟨d, d, h1, h1, h2, h2, by rw [h3]; exact q⟩
theorem pure_law_same {K : PySem.W.Frag} (n : Nat) (vs : List V) (H : Hp) (Q : VK) (E : XK) (h : sp_law_same K (n + 1) vs H Q E) : t_law_same K n E { nx := fun _ H' => Q .non H', rt := Q } (start N_law_same vs) H := by
  obtain ⟨x, y, rfl, sd, q⟩ := h
  unfold t_law_same
  rcases sd with ⟨s, rfl, rfl, so⟩ | ⟨i, rfl, rfl⟩ | ⟨a, b, xs, ys, rfl, rfl, hx, hy, l, few, ih⟩
  · repeat walk_at "mst"
    refine k_isi (cls_ty "tuple") (.base (.str s)) (kit_ty (b := "tuple") (r := false) (by decide +kernel)) ?_
    repeat walk_at "mst"
    refine k_isi (cls_ty "str") (.base (.str s)) (kit_ty (b := "str") (r := true) (by decide +kernel)) ?_
    repeat walk_at "mst"
    refine k_isi (cls_ty "str") (.base (.str s)) (kit_ty (b := "str") (r := true) (by decide +kernel)) ?_
    repeat walk_at "mst"
    exact same_scal ⟨.str s, .str s, by unfold SeqAt.shaped; simp [PyData.canLay0, PyData.depth, so], by simp [PyData.eqv]⟩ q
  · repeat walk_at "mst"
    refine k_isi (cls_ty "tuple") (.base (.int i)) (kit_ty (b := "tuple") (r := false) (by decide +kernel)) ?_
    repeat walk_at "mst"
    refine k_isi (cls_ty "str") (.base (.int i)) (kit_ty (b := "str") (r := false) (by decide +kernel)) ?_
    repeat walk_at "mst"
    exact same_scal ⟨.int i, .int i, by unfold SeqAt.shaped; simp [PyData.canLay0, PyData.depth], by simp [PyData.eqv]⟩ q
  · repeat walk_at "mst"
    refine k_isi (cls_ty "tuple") (.base (.tup hy)) (kit_ty (b := "tuple") (r := true) (by decide +kernel)) ?_
    repeat walk_at "mst"
    refine k_isi (cls_ty "tuple") (.base (.tup hx)) (kit_ty (b := "tuple") (r := true) (by decide +kernel)) ?_
    repeat walk_at "mst"
    refine k_iteD (fun z => absurd (by omega) z) (fun _ => ?_)
    repeat walk_at "mst"
    refine ⟨_, rfl, by omega, by omega, ?_⟩
    rw [Int.toNat_natCast]
    refine forK_range (fun i σ H' => H' = H ∧ ∃ x2 : Option V, σ = [some (.ref a), some (.ref b), x2]) ⟨rfl, _, rfl⟩ ?_ ?_
    · rintro i σ H' hi ⟨rfl, x2, rfl⟩
      have h1 := List.getElem?_eq_getElem (l := xs) (i := i) (by omega)
      have h2 := List.getElem?_eq_getElem (l := ys) (i := i) hi
      repeat walk_at "mst"
      refine k_ixT (k_st hx) (atI_nat h1) ?_
      repeat walk_at "mst"
      refine k_ixT (k_st hy) (atI_nat h2) ?_
      repeat walk_at "mst"
      refine ⟨_, _, rfl, ih i _ _ h1 h2, ?_⟩
      repeat walk_at "mst"
      exact ⟨rfl, _, rfl⟩
    · rintro σ H' ⟨rfl, x2, rfl⟩
      repeat walk_at "mst"
      exact q
theorem use_same {K : PySem.W.Frag} {n : Nat} {H : Hp} {Q : VK} {E : XK} {x y : V} (sd : SameD K H n x y) (q : Q (.bl true) H) : sp_law_same K n ([x, y] ++ []) H Q E := ⟨x, y, rfl, sd, q⟩
def sp_Hedge_m_value (K : PySem.W.Frag) : Sp := fun vs H Q _ => ∃ (b : Addr) (l : List Edge), vs = [.ref b] ∧ HgAt K H b l ∧ ∀ v H', Ex H H' → DuH H' v l → Q v H'
local macro_rules | `(tactic| walk_at "mlk") => `(tactic| exact ghe_get _)
abbrev N_Hedge_m_value : List Str := ["self"]
def t_Hedge_m_value (K : PySem.W.Frag) (E : XK) : TS := (tRet (tTup (tCons (tC (.str "hedge")) (tCons (tFld K (tVar 0) "_edges") tNil))))
theorem len_Hedge_m_value {K : PySem.W.Frag} {vs : List V} {H : Hp} {Q : VK} {E : XK} (h : sp_Hedge_m_value K vs H Q E) : vs.length = 1 := by
  obtain ⟨_, _, rfl, _⟩ := h; rfl
theorem pure_Hedge_m_value {K : PySem.W.Frag} (F : FHedge K) (vs : List V) (H : Hp) (Q : VK) (E : XK) (h : sp_Hedge_m_value K vs H Q E) : t_Hedge_m_value K E { nx := fun _ H' => Q .non H', rt := Q } (start N_Hedge_m_value vs) H := by
  obtain ⟨b, l, rfl, ⟨dx, t, xs, hb, ht, R⟩, q⟩ := h
  unfold t_Hedge_m_value
  obtain ⟨cl, na⟩ := F
  repeat walk_at "mst"
  exact ⟨fits (Nat.le_of_ble_eq_true rfl), fun p np => q _ _ (Evl.Ex.new np) ⟨p, t, xs, rfl, upd_same, Evl.Ex.new np _ _ ht, R.imp fun y c q => q.ex (Evl.Ex.new np)⟩⟩
theorem use_hevalue {K : PySem.W.Frag} {H : Hp} {Q : VK} {E : XK} {b : Addr} {l : List Edge} (h : HgAt K H b l) (q : ∀ v H', Ex H H' → DuH H' v l → Q v H') : sp_Hedge_m_value K (.ref b :: ([] ++ [])) H Q E := ⟨b, l, rfl, h, q⟩
def sp_law_told (K : PySem.W.Frag) : Sp := fun vs H Q _ => ∃ (p d : Addr) (ys ds : List V) (ls : List (List Edge)), vs = [.ref p, .ref d] ∧ H p = some (.lst ys) ∧ SqL K H d ds ∧ BsH K H ys ls ∧ DsH H ds ls ∧ ls.length ≤ 2000 ∧ (∀ l ∈ ls, (∀ e ∈ l, OkE e) ∧ l.length ≤ 16) ∧ ∀ H', (∀ c o, H c = some o → c ≠ p → H' c = some o) → Q (.bl true) H'
theorem he_sameM {K : PySem.W.Frag} {H : Hp} {x y : V} {l : List Edge} (h1 : DuH H x l) (h2 : DuH H y l) (ok : ∀ e ∈ l, OkE e) (l16 : l.length ≤ 16) : SameD K H 5 x y := by
  obtain ⟨d, t, xs, rfl, hd, ht, R1⟩ := h1
  obtain ⟨e, u, zs, rfl, he, hu, R2⟩ := h2
  have x1 := R1.1
  have x2 := R2.1
  refine Or.inr (Or.inr ⟨d, e, _, _, rfl, rfl, hd, he, rfl, by show 2 ≤ 1000; decide, fun k x y hx hy => ?_⟩)
  match k with
  | 0 => cases hx; cases hy; exact Or.inl ⟨_, rfl, rfl, by decide +kernel⟩
  | 1 =>
    cases hx; cases hy
    refine Or.inr (Or.inr ⟨t, u, _, _, rfl, rfl, ht, hu, by omega, by omega, fun k x y hx hy => ?_⟩)
    have hk := (List.getElem?_eq_some_iff.mp hx).1
    have hc := List.getElem?_eq_getElem (l := l) (i := k) (by omega)
    obtain ⟨x', q1, a1, rfl, z1⟩ := R1.2 k _ hc
    obtain ⟨y', q2, a2, rfl, z2⟩ := R2.2 k _ hc
    have okc := ok _ (List.mem_of_getElem? hc)
    rw [hx] at q1
    rw [hy] at q2
    cases q1; cases q2
    generalize l[k]'(by omega) = ed at *
    refine Or.inr (Or.inr ⟨a1, a2, _, _, rfl, rfl, z1, z2, rfl, by show 3 ≤ 1000; decide, fun k x y hx hy => ?_⟩)
    rw [hx] at hy
    cases hy
    match k with
    | 0 => cases hx; exact Or.inr (Or.inl ⟨_, rfl, rfl⟩)
    | 1 => cases hx; exact Or.inr (Or.inl ⟨_, rfl, rfl⟩)
    | 2 => cases hx; exact Or.inl ⟨_, rfl, rfl, col_strQ okc.2.2⟩
    | k + 3 => cases hx
  | k + 2 => cases hx
abbrev N_law_told : List Str := ["boards", "dues", "k"]
def t_law_told (K : PySem.W.Frag) (E : XK) : TS := (tSeq (tIfS (tOr (tNot (tB (tCB (rIsi K) (tCons (tVar 0) (tCons (tC (.ty "list")) tNil))))) (tTest (tOp rNe (tCB (rLenQ K) (tCons (tVar 0) tNil)) (tCB (rLenQ K) (tCons (tVar 1) tNil))))) (tRet (tC (.bl false))) tNext) (tSeq (tFor (iRng1 (tCons (tCB (rLenQ K) (tCons (tVar 1) tNil)) tNil)) (gName 2) (tIfS (tOr (tNot (tB (tCB (rIsC (He.ga K "Hedge")) (tCons (tOp (rIxL K) (tVar 0) (tVar 2)) (tCons (tC (.ref (He.ga K "Hedge"))) tNil))))) (tNot (tB (tCall (sp_law_same K 5) [] E0 (tCons (tMeth (He.ga K "Hedge") "value" (sp_Hedge_m_value K) [] E0 (tOp (rIxL K) (tVar 0) (tVar 2)) tNil) (tCons (tOp (rIxL K) (tVar 1) (tVar 2)) tNil)))))) (tRet (tC (.bl false))) tNext)) (tSeq (tDrop (tBM0 K "list" rReverse (tVar 0))) (tSeq (tDrop (tBM K "list" rAppend (tVar 0) (tCons (tC .non) tNil))) (tRet (tC (.bl true)))))))
theorem len_law_told {K : PySem.W.Frag} {vs : List V} {H : Hp} {Q : VK} {E : XK} (h : sp_law_told K vs H Q E) : vs.length = 2 := by
  obtain ⟨_, _, _, _, _, rfl, _⟩ := h; rfl
theorem pure_law_told {K : PySem.W.Frag} (vs : List V) (H : Hp) (Q : VK) (E : XK) (h : sp_law_told K vs H Q E) : t_law_told K E { nx := fun _ H' => Q .non H', rt := Q } (start N_law_told vs) H := by
  obtain ⟨p, d, ys, ds, css, rfl, hp, hd, bs, dd, few, sl, q⟩ := h
  unfold t_law_told
  have xl : ys.length = css.length := bs.1
  have yl : ds.length = css.length := dd.1
  repeat walk_at "mst"
  refine k_isi (cls_ty "list") (.base (.lst hp)) (kit_ty (b := "list") (r := true) (by decide +kernel)) ?_
  repeat walk_at "mst"
  refine k_iteD (fun z => absurd (by omega) z) (fun _ => ?_)
  repeat walk_at "mst"
  refine ⟨_, rfl, by omega, by omega, ?_⟩
  rw [Int.toNat_natCast]
  refine forK_range (fun i σ H' => Ex H H' ∧ ∃ x2 : Option V, σ = [some (.ref p), some (.ref d), x2]) ⟨Evl.Ex.refl _, _, rfl⟩ ?_ ?_
  · rintro i σ H' hi ⟨e, x2, rfl⟩
    have hz := List.getElem?_eq_getElem (l := css) (i := i) (by omega)
    have okl := sl _ (List.mem_of_getElem? hz)
    obtain ⟨_, hb, b, rfl, hB⟩ := bs.2 i _ hz
    obtain ⟨w, hw, hW⟩ := dd.2 i _ hz
    generalize css[i] = cs at *
    have hB' := hB.ex e
    obtain ⟨dx, tt, _, hB1, _⟩ := id hB'
    have hp' := e _ _ hp
    have hd' := Evl.ex_l e hd
    repeat walk_at "mst"
    refine k_ixL (k_sq hp') (atI_nat hb) ?_
    repeat walk_at "mst"
    refine k_rIsC hB1 ?_
    repeat walk_at "mst"
    refine k_ixL (k_sq hp') (atI_nat hb) ?_
    repeat walk_at "mst"
    refine ⟨b, dx, _, rfl, hB1, ghe_no _ (by decide +kernel), ?_⟩
    repeat walk_at "mst"
    refine use_hevalue hB' fun v H2 e2 hv => ?_
    have hd2 := Evl.ex_l e2 hd'
    repeat walk_at "mst"
    refine k_ixL hd2 (atI_nat hw) ?_
    repeat walk_at "mst"
    refine use_same (he_sameM hv ((hW.ex e).ex e2) okl.1 okl.2) ?_
    repeat walk_at "mst"
    exact ⟨e.trans e2, _, rfl⟩
  · rintro σ H' ⟨e, x2, rfl⟩
    have hp' := e _ _ hp
    repeat walk_at "mst"
    refine ⟨p, _, rfl, rfl, hp', ?_⟩
    have k1 : ∀ c o, H c = some o → c ≠ p → upd H' p (HO.lst ys.reverse) c = some o := fun c o z y => (upd_ne y).trans (e _ _ z)
    have s1 : upd H' p (HO.lst ys.reverse) p = some (HO.lst ys.reverse) := upd_same
    generalize upd H' p (HO.lst ys.reverse) = H1 at *
    repeat walk_at "mst"
    · rw [List.length_reverse]; exact fits' (by omega)
    exact q _ fun c o z y => (upd_ne y).trans (k1 c o z y)
theorem use_hetold {K : PySem.W.Frag} {H : Hp} {Q : VK} {E : XK} {p d : Addr} {ys ds : List V} {ls : List (List Edge)} (hp : H p = some (.lst ys)) (hd : SqL K H d ds) (bs : BsH K H ys ls) (dd : DsH H ds ls) (few : ls.length ≤ 2000) (sl : ∀ l ∈ ls, (∀ e ∈ l, OkE e) ∧ l.length ≤ 16) (q : ∀ H', (∀ c o, H c = some o → c ≠ p → H' c = some o) → Q (.bl true) H') : sp_law_told K ([.ref p, .ref d] ++ []) H Q E := ⟨p, d, ys, ds, ls, rfl, hp, hd, bs, dd, few, sl, q⟩
def sp_Hedge_p_together (K : PySem.W.Frag) : Sp := fun vs H Q _ => ∃ (b : Addr) (i : Nat) (es : List Edge), vs = [.ref b, .int (i : Int)] ∧ HgAt K H b es ∧ (∀ e ∈ es, OkE e) ∧ es.length ≤ 16 ∧ i < es.length ∧ ∀ p H', H p = none → Ex H H' → H' p = some (.lst ((togE es i).map fun p : Nat => V.int (p : Int))) → Q (.ref p) H'
local macro_rules | `(tactic| walk_at "mlk") => `(tactic| exact ghe_get _)
local macro_rules | `(tactic| walk_at "mst") => `(tactic| first
  | with_reducible refine k_enumT ?_)
def zeroV : V → Bool
  | .int i => decide (i = 0)
  | _ => false
def nzV (x : V) : Option V := if zeroV x = true then none else some x
theorem nzV_list (e : Edge) : ([.int (e.1 : Int), .int (e.2.1 : Int)] : List V).filterMap nzV = (nzK e).map fun k : Nat => V.int (k : Int) := by
  have one : ∀ k : Nat, nzV (.int (k : Int)) = if decide (k ≠ 0) = true then some (.int (k : Int)) else none := fun k => by
    unfold nzV zeroV
    by_cases h : k = 0
    · subst h; rfl
    · have h2 : ¬ (k : Int) = 0 := by omega
      simp [h, h2]
  unfold nzK
  rw [List.filterMap_cons, List.filterMap_cons, one, one, List.filter_cons, List.filter_cons]
  by_cases h1 : e.1 = 0 <;> by_cases h2 : e.2.1 = 0 <;> simp [h1, h2]
def upB (e : Edge) : Bool := decide (e.1 ≠ 0) && decide (e.2.1 ≠ 0)
theorem up_in (a b : Nat) : (!inV (V.int 0) [V.int (a : Int), V.int (b : Int)]) = (decide (a ≠ 0) && decide (b ≠ 0)) := by
  have key : ∀ d : Nat, eqV (V.int (d : Int)) (V.int 0) = decide (d = 0) := fun d => by
    show decide (_ = _) = _
    exact decide_eq_decide.mpr ⟨fun h => by omega, fun h => by omega⟩
  show (!(eqV (V.int (a : Int)) (V.int 0) || (eqV (V.int (b : Int)) (V.int 0) || false))) = _
  rw [key, key]
  by_cases h1 : a = 0 <;> by_cases h2 : b = 0 <;> simp [h1, h2]
open Classical in
noncomputable def inPV (es : List Edge) (i p : Nat) (_ : V) : Option V := if InP es i p then some (.int (p : Int)) else none
open Classical in
theorem inPV_list {es : List Edge} {xs : List V} (l : xs.length = es.length) (i : Nat) : ((List.range xs.length).filterMap fun p => (xs[p]?).bind (inPV es i p)) = (togE es i).map fun p : Nat => V.int (p : Int) := by
  unfold togE
  rw [← List.filterMap_eq_map, List.filterMap_filter, l]
  refine fm_congr fun p m => ?_
  have hp := List.mem_range.mp m
  rw [List.getElem?_eq_getElem (l := xs) (i := p) (by omega)]
  rw [Option.bind_some]
  unfold inPV
  by_cases h : InP es i p
  · rw [if_pos h, if_pos (decide_eq_true h)]; rfl
  · rw [if_neg h, if_neg (by simpa using h)]
abbrev N_Hedge_p_together : List Str := ["self", "at", "start", "knot", "knots", "edge", "place", "one", "other", "_"]
def t_Hedge_p_together (K : PySem.W.Frag) (E : XK) : TS := (tSeq (tAsg (tLc (iTup K (tSl (rSlA K) (tOp (rIxT K) (tFld K (tVar 0) "_edges") (tVar 1)) tNoPart (tPart (tC (.int 2))))) (gName 3) (tTest (tOp rNe (tVar 3) (tC (.int 0)))) (tVar 3) [3]) (gName 2)) (tSeq (tAsg (tCall (sp_reached K) [] E0 (tCons (tLc (iTup K (tFld K (tVar 0) "_edges")) (gName 5) (tTest (tOp (rIn K true) (tC (.int 0)) (tSl (rSlA K) (tVar 5) tNoPart (tPart (tC (.int 2)))))) (tVar 5) [5]) (tCons (tVar 2) tNil))) (gName 4)) (tRet (tLc (iEnumT K (tCons (tFld K (tVar 0) "_edges") tNil)) (gTup K 2 (gCons (gName 6) (gCons (gTup K 3 (gCons (gName 7) (gCons (gName 8) (gCons (gName 9) gNil)))) gNil))) (tOr (tTest (tOp rEq (tVar 6) (tVar 1))) (tOr (tB (tDIn (tVar 7) (tVar 4))) (tB (tDIn (tVar 8) (tVar 4))))) (tVar 6) [6, 7, 8, 9]))))
theorem len_Hedge_p_together {K : PySem.W.Frag} {vs : List V} {H : Hp} {Q : VK} {E : XK} (h : sp_Hedge_p_together K vs H Q E) : vs.length = 2 := by
  obtain ⟨_, _, _, rfl, _⟩ := h; rfl
theorem pure_Hedge_p_together {K : PySem.W.Frag} (F : FHedge K) (vs : List V) (H : Hp) (Q : VK) (E : XK) (h : sp_Hedge_p_together K vs H Q E) : t_Hedge_p_together K E { nx := fun _ H' => Q .non H', rt := Q } (start N_Hedge_p_together vs) H := by
  obtain ⟨b, i, es, rfl, hB, ok, l16, hi, q⟩ := h
  obtain ⟨dx, t, xs, hb, ht, R⟩ := id hB
  have xl := R.1
  unfold t_Hedge_p_together
  obtain ⟨cl, na⟩ := F
  have hc := List.getElem?_eq_getElem (l := es) (i := i) hi
  obtain ⟨x', hx', u, rfl, hu⟩ := R.2 i _ hc
  generalize hed : es[i] = ed at *
  repeat walk_at "mst"
  refine k_ixT (k_st ht) (atI_nat hx') ?_
  repeat walk_at "mst"
  refine k_slH hu fun p1 H1 e1 h1 => ?_
  rw [show (2 : Int) = ((2 : Nat) : Int) from rfl, cut_cut (by show 2 ≤ 3; decide)] at h1
  have h1 : H1 p1 = some (.tup [.int (ed.1 : Int), .int (ed.2.1 : Int)]) := h1
  repeat walk_at "mst"
  refine ⟨p1, rfl, ⟨_, k_st h1⟩, lcR_tup nzV (k_st h1) (fits' (by show 2 ≤ 3000; decide)) (fun x mx => ?_) fun S H2 nS e2 hS => ?_⟩
  · intro H'' e'' RR rr
    have ix : ∃ k : Nat, x = .int (k : Int) := by
      simp only [List.mem_cons, List.not_mem_nil, or_false] at mx
      rcases mx with rfl | rfl <;> exact ⟨_, rfl⟩
    obtain ⟨k, rfl⟩ := ix
    repeat walk_at "mst"
    refine ⟨rfl, ?_⟩
    repeat walk_at "mst"
    have rr := rr _ (Evl.Ex.refl _)
    unfold nzV at rr
    refine k_iteD (fun z => ?_) (fun z => ?_)
    · rw [if_neg (show ¬ zeroV (.int (k : Int)) = true by show ¬ decide ((k : Int) = 0) = true; simpa using z)] at rr
      repeat walk_at "mst"
      exact rr
    · rw [if_pos (show zeroV (.int (k : Int)) = true from decide_eq_true (Classical.byContradiction z))] at rr
      repeat walk_at "mst"
      exact rr
  rw [nzV_list] at hS
  have e02 := e1.trans e2
  have ht2 := e02 _ _ ht
  have hb2 := e02 _ _ hb
  repeat walk_at "mst"
  refine ⟨t, rfl, ⟨_, k_st ht2⟩, lcR_tup (keepG H upB) (k_st ht2) (fits' (by omega)) (fun x mx => ?_) fun L H3 nL e3 hL => ?_⟩
  · intro H'' e'' RR rr
    obtain ⟨j, hx⟩ := List.getElem?_of_mem mx
    have hj := (List.getElem?_eq_some_iff.mp hx).1
    have hcj := List.getElem?_eq_getElem (l := es) (i := j) (by omega)
    obtain ⟨x', hx', at_⟩ := R.2 j _ hcj
    rw [hx] at hx'
    cases hx'
    rw [keepG_at (f := upB) at_] at rr
    obtain ⟨v, rfl, hv⟩ := at_
    generalize es[j]'(by omega) = f at *
    have hv' := e'' _ _ (e02 _ _ hv)
    repeat walk_at "mst"
    refine ⟨rfl, ?_⟩
    repeat walk_at "mst"
    refine k_slH hv' fun p2 H4 e4 h4 => ?_
    rw [show (2 : Int) = ((2 : Nat) : Int) from rfl, cut_cut (by show 2 ≤ 3; decide)] at h4
    have h4 : H4 p2 = some (.tup [.int (f.1 : Int), .int (f.2.1 : Int)]) := h4
    have rr := rr _ e4
    refine ⟨_, _, rfl, Or.inr (k_st h4), rfl, rfl, ?_⟩
    refine ⟨_, rfl, ?_⟩
    have bv : (if true = true then !inV (V.int 0) [.int (f.1 : Int), .int (f.2.1 : Int)] else inV (V.int 0) [.int (f.1 : Int), .int (f.2.1 : Int)]) = upB f := up_in f.1 f.2.1
    rw [bv]
    cases hub : upB f
    · rw [hub] at rr
      repeat walk_at "mst"
      exact rr
    · rw [hub] at rr
      repeat walk_at "mst"
      exact rr
  have e03 := e02.trans e3
  have up : EsAt H3 (xs.filterMap (keepG H upB)) (upE es) := (keepG_es (f := upB) R).imp fun y c q => q.ex e03
  repeat walk_at "mst"
  refine use_reachedF (k_sq hL) up (fun e m => ok e (mem_up.mp m).1) (e3 _ _ hS) (by unfold nzK; exact List.length_filter_le _ _) fun D kvs H4 nD e4 hD key => ?_
  have e04 := e03.trans e4
  have ht4 := e04 _ _ ht
  have hb4 := e04 _ _ hb
  repeat walk_at "mst"
  refine ⟨t, _, rfl, k_st ht4, lcR_enumT (inPV es i) (k_st ht4) (fits' (by omega)) (fun p x T H5 hx e5 hT => ?_) fun O H6 nO e6 hO => ?_⟩
  · intro H'' e'' RR rr
    have hp := (List.getElem?_eq_some_iff.mp hx).1
    have hcp := List.getElem?_eq_getElem (l := es) (i := p) (by omega)
    obtain ⟨x', hx', v, rfl, hv⟩ := R.2 p _ hcp
    rw [hx] at hx'
    cases hx'
    generalize hfd : es[p]'(by omega) = f at *
    have hv' := e'' _ _ (e5 _ _ (e04 _ _ hv))
    have hT' := e'' _ _ hT
    have hD' := e'' _ _ (e5 _ _ hD)
    have rr := rr _ (Evl.Ex.refl _)
    have yes : InP es i p → RR (some (.int (p : Int))) H'' := fun h => by unfold inPV at rr; rw [if_pos h] at rr; exact rr
    have no : ¬ InP es i p → RR none H'' := fun h => by unfold inPV at rr; rw [if_neg h] at rr; exact rr
    refine k_gtup (k_st hT') rfl ?_
    repeat walk_at "mst"
    refine k_gtup (k_st hv') rfl ?_
    repeat walk_at "mst"
    refine ⟨rfl, ?_⟩
    repeat walk_at "mst"
    refine k_iteD (fun z => ?_) (fun z => ?_)
    · repeat walk_at "mst"
      exact yes (Or.inl (by omega))
    · repeat walk_at "mst"
      refine ⟨D, _, rfl, DGet.k (k := Sum.inl (f.1 : Int)) hD', ?_⟩
      have k1 : (valV kvs (Sum.inl (f.1 : Int))).isSome = dkey kvs (f.1 : Int) := rfl
      rw [k1]
      cases h1 : dkey kvs (f.1 : Int)
      · repeat walk_at "mst"
        refine ⟨D, _, rfl, DGet.k (k := Sum.inl (f.2.1 : Int)) hD', ?_⟩
        have k2 : (valV kvs (Sum.inl (f.2.1 : Int))).isSome = dkey kvs (f.2.1 : Int) := rfl
        rw [k2]
        cases h2 : dkey kvs (f.2.1 : Int)
        · repeat walk_at "mst"
          refine no ?_
          rintro (h | ⟨e', q', he', hq', tt⟩)
          · exact z (by omega)
          · rw [hc] at he'
            rw [hcp] at hq'
            cases he'; cases hq'
            rcases tt with tt | tt
            · have := (key _).mpr tt
              rw [h1] at this; cases this
            · have := (key _).mpr tt
              rw [h2] at this; cases this
        · repeat walk_at "mst"
          exact yes (Or.inr ⟨_, _, hc, hcp, Or.inr ((key _).mp h2)⟩)
      · repeat walk_at "mst"
        exact yes (Or.inr ⟨_, _, hc, hcp, Or.inl ((key _).mp h1)⟩)
  · rw [inPV_list xl] at hO
    repeat walk_at "mst"
    exact q O H6 (Evl.fresh_back e04 nO) (e04.trans e6) hO
theorem use_together {K : PySem.W.Frag} {H : Hp} {Q : VK} {E : XK} {b : Addr} {i : Nat} {es : List Edge} (hB : HgAt K H b es) (ok : ∀ e ∈ es, OkE e) (l16 : es.length ≤ 16) (hi : i < es.length) (q : ∀ p H', H p = none → Ex H H' → H' p = some (.lst ((togE es i).map fun p : Nat => V.int (p : Int))) → Q (.ref p) H') : sp_Hedge_p_together K (.ref b :: ([.int (i : Int)] ++ [])) H Q E := ⟨b, i, es, rfl, hB, ok, l16, hi, q⟩
def sp_Hedge_m_parts (K : PySem.W.Frag) : Sp := fun vs H Q _ => ∃ (b : Addr) (es : List Edge), vs = [.ref b] ∧ HgAt K H b es ∧ (∀ e ∈ es, OkE e) ∧ es.length ≤ 16 ∧ keptE es = es ∧ ∀ p ys H', H p = none → Ex H H' → H' p = some (.lst ys) → BsH K H' ys (partsE es) → Q (.ref p) H'
local macro_rules | `(tactic| walk_at "mlk") => `(tactic| exact ghe_get _)
local macro_rules | `(tactic| walk_at "new") => `(tactic| ((first | refine ⟨fits (Nat.le_of_ble_eq_true rfl), ?_⟩ | skip); intro p np; generalize hq : upd _ p _ = H1; have e1 := nx np hq; have s1 := nS hq; clear hq))
theorem pt_len (es : List Edge) : ∀ n, (ptTo es n).1.length ≤ n
  | 0 => Nat.le_refl _
  | n + 1 => by
    have h := pt_len es n
    show (ptStep es (ptTo es n) n).1.length ≤ _
    unfold ptStep
    split
    · omega
    · rw [List.length_append, List.length_singleton]; omega
abbrev N_Hedge_m_parts : List Str := ["self", "found", "done", "at", "together", "place"]
def t_Hedge_m_parts (K : PySem.W.Frag) (E : XK) : TS := (tSeq (tAsg (tLst tNil) (gName 1)) (tSeq (tAsg tDNewK (gName 2)) (tSeq (tFor (iRng1 (tCons (tCB (rLenQ K) (tCons (tFld K (tVar 0) "_edges") tNil)) tNil)) (gName 3) (tIfS (tB (tDNotIn (tVar 3) (tVar 2))) (tSeq (tAsg (tMeth (He.ga K "Hedge") "_together" (sp_Hedge_p_together K) [] E0 (tVar 0) (tCons (tVar 3) tNil)) (gName 4)) (tSeq (tFor (iList K (tVar 4)) (gName 5) (sDPut (tVar 2) (tVar 5) (tC (.bl true)))) (tDrop (tBM K "list" rAppend (tVar 1) (tCons (tMake (He.ga K "Hedge") (sp_Hedge_d_init K) [] E0 (tCons (tLc (iList K (tVar 4)) (gName 5) tYes (tOp (rIxT K) (tFld K (tVar 0) "_edges") (tVar 5)) [5]) tNil)) tNil))))) tNext)) (tRet (tVar 1)))))
theorem len_Hedge_m_parts {K : PySem.W.Frag} {vs : List V} {H : Hp} {Q : VK} {E : XK} (h : sp_Hedge_m_parts K vs H Q E) : vs.length = 1 := by
  obtain ⟨_, _, rfl, _⟩ := h; rfl
theorem pure_Hedge_m_parts {K : PySem.W.Frag} (F : FHedge K) (vs : List V) (H : Hp) (Q : VK) (E : XK) (h : sp_Hedge_m_parts K vs H Q E) : t_Hedge_m_parts K E { nx := fun _ H' => Q .non H', rt := Q } (start N_Hedge_m_parts vs) H := by
  obtain ⟨b, es, rfl, hB, ok, l16, kp, q⟩ := h
  obtain ⟨dx, t, xs, hb, ht, R⟩ := id hB
  have xl := R.1
  unfold t_Hedge_m_parts
  obtain ⟨cl, na⟩ := F
  repeat walk_at "mst"
  walk_at "new"; rename_i fp nfp H1 e1 s1
  repeat walk_at "mst"
  first | refine k_dnew ?_ | skip
  walk_at "new"; rename_i D nD H2 e2 s2
  have e02 := e1.trans e2
  have hf2 := e2 _ _ s1
  have hb2 := e02 _ _ hb
  have ht2 := e02 _ _ ht
  have nD0 : H D = none := Evl.fresh_back e1 nD
  have nfD : fp ≠ D := ne_of_none s1 nD
  repeat walk_at "mst"
  refine ⟨_, rfl, by omega, by omega, ?_⟩
  rw [Int.toNat_natCast]
  refine forK_range (fun n σ H' => ∃ (zs : List V) (kvs : List (Key × V)) (x3 x4 x5 : Option V), Ex H H' ∧ H' fp = some (.lst zs) ∧ H' D = some (.dK kvs) ∧ (∀ p : Nat, dkey kvs (p : Int) = true ↔ p ∈ (ptTo es n).2) ∧ kvs.length + Un 16 (dkey kvs) ≤ 16 ∧ BsH K H' zs ((ptTo es n).1.map (pickE es)) ∧ σ = [some (.ref b), some (.ref fp), some (.ref D), x3, x4, x5]) ⟨[], [], none, none, none, e02, hf2, s2, fun p => ⟨fun h => (by cases h), fun m => absurd m List.not_mem_nil⟩, (by have := un_all 16 (dkey []); show 0 + _ ≤ 16; omega), .nil, rfl⟩ ?_ ?_
  · rintro n σ H3 hn ⟨zs, kvs, x3, x4, x5, e3, hf3, hD3, key, len, bs, rfl⟩
    have hn : n < es.length := by omega
    have hb3 := e3 _ _ hb
    have ht3 := e3 _ _ ht
    have zl : zs.length ≤ 16 := by
      have h1 : zs.length = (ptTo es n).1.length := by rw [bs.1, List.length_map]
      have := pt_len es n
      omega
    repeat walk_at "mst"
    refine ⟨D, _, rfl, DGet.k (k := Sum.inl (n : Int)) hD3, ?_⟩
    have k1 : (valV kvs (Sum.inl (n : Int))).isSome = dkey kvs (n : Int) := rfl
    rw [k1]
    refine ⟨_, rfl, ?_⟩
    cases hdk : dkey kvs (n : Int)
    · have nin : n ∉ (ptTo es n).2 := fun m => by rw [(key n).mpr m] at hdk; cases hdk
      rw [if_pos (show (!false) = true from rfl)]
      repeat walk_at "mst"
      refine ⟨b, dx, _, rfl, hb3, ghe_no _ (by decide +kernel), ?_⟩
      repeat walk_at "mst"
      refine use_together (hB.ex e3) ok l16 hn fun tp H4 ntp e4 htp => ?_
      have ts := tog_len es n
      have tl : ∀ p ∈ togE es n, p < es.length := fun p m => (mem_tog.mp m).1
      have pm : pickE es (togE es n) ∈ partsE es := part_mem (List.getElem?_eq_getElem hn)
      have st1 : (ptTo es (n + 1)).1 = (ptTo es n).1 ++ [togE es n] := by show (ptStep es (ptTo es n) n).1 = _; rw [pt_out nin]
      have st2 : (ptTo es (n + 1)).2 = (ptTo es n).2 ++ togE es n := by show (ptStep es (ptTo es n) n).2 = _; rw [pt_out nin]
      rw [st1, st2]
      generalize togE es n = tg at *
      have hD4 := e4 _ _ hD3
      have ntD : tp ≠ D := fun h => by rw [h, hD4] at htp; cases htp
      repeat walk_at "mst"
      refine ⟨tp, rfl, ⟨_, k_sq htp⟩, forK_list (xs := tg.map fun p : Nat => V.int (p : Int)) (fun j σ H' => ∃ (kv : List (Key × V)) (x5 : Option V), (∀ c o, H4 c = some o → c ≠ D → H' c = some o) ∧ H' D = some (.dK kv) ∧ (∀ p : Nat, dkey kv (p : Int) = true ↔ p ∈ (ptTo es n).2 ∨ p ∈ tg.take j) ∧ kv.length + Un 16 (dkey kv) ≤ 16 ∧ σ = [some (.ref b), some (.ref fp), some (.ref D), some (.int (n : Int)), some (.ref tp), x5]) ⟨kvs, _, fun c o z _ => z, hD4, fun p => by rw [List.take_zero]; exact (key p).trans ⟨Or.inl, fun h => h.elim id fun m => absurd m List.not_mem_nil⟩, len, rfl⟩ ?_ ?_ ?_⟩
      · rintro j σ H' _ ⟨kv, y5, k4, _⟩; exact k_sq (k4 _ _ htp ntD)
      · rintro j x σ H5 hx ⟨kv, y5, k4, hD5, key5, len5, rfl⟩
        rw [List.getElem?_map] at hx
        cases hg : tg[j]? with
        | none => rw [hg] at hx; cases hx
        | some p =>
          rw [hg] at hx
          cases hx
          have pl := tl p (List.mem_of_getElem? hg)
          have l1 := put_len kv (k := (p : Int)) (.bl true) (n := 16) ⟨by omega, by omega⟩
          repeat walk_at "mst"
          refine ⟨D, _, rfl, DPut.k (k := Sum.inl (p : Int)) hD5 (fits' (by omega)), ?_⟩
          refine ⟨_, _, fun c o z y => (upd_ne y).trans (k4 c o z y), upd_same, fun r => ?_, by omega, rfl⟩
          rw [dkey_put, Bool.or_eq_true, decide_eq_true_iff, List.take_add_one, hg, List.mem_append, key5 r]
          constructor
          · rintro (h | h | h)
            · exact Or.inr (Or.inr (by have : r = p := by omega
                                       rw [this]; exact List.mem_cons_self))
            · exact Or.inl h
            · exact Or.inr (Or.inl h)
          · rintro (h | h | h)
            · exact Or.inr (Or.inl h)
            · exact Or.inr (Or.inr h)
            · exact Or.inl (by have : r = p := List.mem_singleton.mp h
                               rw [this])
      · rintro σ H5 ⟨kv, y5, k4, hD5, key5, len5, rfl⟩
        rw [List.length_map, List.take_length] at key5
        have e05 : Ex H H5 := fun c o z => k4 c o (e4 _ _ (e3 _ _ z)) (ne_of_none z nD0)
        have hb5 := e05 _ _ hb
        have ht5 := e05 _ _ ht
        have hf5 := k4 _ _ (e4 _ _ hf3) nfD
        have htp5 := k4 _ _ htp ntD
        have fx5 : ∀ c o, H4 c = some o → Fx o → H5 c = some o := fun c o z f => k4 c o z fun h => by rw [h, hD4] at z; cases z; exact f
        have bs5 := (bs.imp fun y c q => q.ex e4).imp fun y c q => q.fx fx5
        repeat walk_at "mst"
        refine ⟨tp, rfl, ⟨_, k_sq htp5⟩, lcR_list (itemV xs) (k_sq htp5) (by rw [List.length_map]; exact fits' (by omega)) (fun x mx => ?_) fun L H6 nL e6 hL => ?_⟩
        · intro H'' e'' RR rr
          obtain ⟨p, mp, rfl⟩ := List.mem_map.mp mx
          have pl := tl p mp
          have hg := List.getElem?_eq_getElem (l := xs) (i := p) (by omega)
          have rr := rr _ (Evl.Ex.refl _)
          have iv : itemV xs (.int (p : Int)) = some (xs[p]'(by omega)) := hg
          rw [iv] at rr
          have ht'' := e'' _ _ ht5
          have hb'' := e'' _ _ hb5
          repeat walk_at "mst"
          refine ⟨rfl, ?_⟩
          unfold tYes
          repeat walk_at "mst"
          refine k_ixT (k_st ht'') (atI_nat hg) ?_
          exact rr
        · rw [itemV_list] at hL
          have e06 := e05.trans e6
          repeat walk_at "mst"
          refine mk_he (k_sq hL) ((pick_es R tg).imp fun y c q => q.ex e06) (fun e m => ok e (pick_sub m)) (by rw [pick_len tl]; omega) fun x H7 nx_ e7 hX => ?_
          rw [part_kept kp pm] at hX
          have e67 := e6.trans e7
          have hf7 := e67 _ _ hf5
          have hD7 := e67 _ _ hD5
          have bs7 := bs5.imp fun y c q => q.ex e67
          repeat walk_at "mst"
          · exact fits' (by omega)
          have fx := upd_fx (o1 := HO.lst (zs ++ [.ref x])) hf7 (fun h => h)
          refine ⟨zs ++ [.ref x], kv, _, _, _, Evl.Ex.mut (e05.trans e67) nfp, upd_same, (upd_ne nfD.symm).trans hD7, fun p => by rw [key5 p, List.mem_append], len5, ?_, rfl⟩
          rw [List.map_append]
          exact (bs7.imp fun y c q => q.fx fx).app (.one ⟨x, rfl, hX.fx fx⟩)
    · have yin : n ∈ (ptTo es n).2 := (key n).mp hdk
      rw [if_neg (show ¬ (!true) = true by decide)]
      repeat walk_at "mst"
      have st : ptTo es (n + 1) = ptTo es n := by show ptStep es (ptTo es n) n = _; rw [pt_in yin]
      rw [st]
      exact ⟨zs, kvs, _, _, _, e3, hf3, hD3, key, len, bs, rfl⟩
  · rintro σ H3 ⟨zs, kvs, x3, x4, x5, e3, hf3, hD3, key, len, bs, rfl⟩
    repeat walk_at "mst"
    rw [xl] at bs
    exact q fp zs H3 nfp e3 hf3 bs
theorem use_heparts {K : PySem.W.Frag} {H : Hp} {Q : VK} {E : XK} {b : Addr} {es : List Edge} (hB : HgAt K H b es) (ok : ∀ e ∈ es, OkE e) (l16 : es.length ≤ 16) (kp : keptE es = es) (q : ∀ p ys H', H p = none → Ex H H' → H' p = some (.lst ys) → BsH K H' ys (partsE es) → Q (.ref p) H') : sp_Hedge_m_parts K (.ref b :: ([] ++ [])) H Q E := ⟨b, es, rfl, hB, ok, l16, kp, q⟩
def sp_Hedge_m_moves (K : PySem.W.Frag) : Sp := fun vs H Q _ => ∃ (b : Addr) (s : Str) (es : List Edge), vs = [.ref b, .str s] ∧ (s = "left" ∨ s = "right") ∧ HgAt K H b es ∧ (∀ e ∈ es, OkE e) ∧ es.length ≤ 16 ∧ ∀ p ys H', H p = none → Ex H H' → H' p = some (.lst ys) → BsH K H' ys (mvsE s es) → Q (.ref p) H'
local macro_rules | `(tactic| walk_at "mlk") => `(tactic| exact ghe_get _)
local macro_rules | `(tactic| walk_at "new") => `(tactic| ((first | refine ⟨fits (Nat.le_of_ble_eq_true rfl), ?_⟩ | skip); intro p np; generalize hq : upd _ p _ = H1; have e1 := nx np hq; have s1 := nS hq; clear hq))
local macro_rules | `(tactic| walk_at "mst") => `(tactic| first
  | with_reducible refine k_star ?_
  | with_reducible refine k_nsetd ?_
  | with_reducible refine k_nvals ?_
  | with_reducible refine k_enumT ?_)
abbrev N_Hedge_m_moves : List Str := ["self", "side", "found", "at", "edge", "board"]
def t_Hedge_m_moves (P : Program) (w : World) (K : PySem.W.Frag) (E : XK) : TS := (tSeq (tAsg (tNNew P w) (gName 2)) (tSeq (tFor (iEnumT K (tCons (tFld K (tVar 0) "_edges") tNil)) (gTup K 2 (gCons (gName 3) (gCons (gName 4) gNil))) (tIfS (tTest (tOp (rIn K false) (tOp (rIxT K) (tVar 4) (tC (.int 2))) (tOp (rKD K (He.ga K "CUTS")) (tC (.ref (He.ga K "CUTS"))) (tVar 1)))) (tSeq (tAsg (tMake (He.ga K "Hedge") (sp_Hedge_d_init K) [] E0 (tCons (tLst (StX.tStar K (tSl (rSlA K) (tFld K (tVar 0) "_edges") tNoPart (tPart (tVar 3))) (StX.tStar K (tSl (rSlA K) (tFld K (tVar 0) "_edges") (tPart (tOp rAddI (tVar 3) (tC (.int 1)))) tNoPart) tNil))) tNil)) (gName 5)) (tDrop (tNSetd P w (tVar 2) (tCons (tMeth (He.ga K "Hedge") "value" (sp_Hedge_m_value K) [] E0 (tVar 5) tNil) (tCons (tVar 5) tNil))))) tNext)) (tRet (tCB (rListVw P w) (tCons (tNVals P w (tVar 2)) tNil)))))
theorem len_Hedge_m_moves {K : PySem.W.Frag} {vs : List V} {H : Hp} {Q : VK} {E : XK} (h : sp_Hedge_m_moves K vs H Q E) : vs.length = 2 := by
  obtain ⟨_, _, _, rfl, _⟩ := h; rfl
theorem pure_Hedge_m_moves {P : Program} {w : World} {K : PySem.W.Frag} (F : FHedge K) (G : FCUTS K) (vs : List V) (H : Hp) (Q : VK) (E : XK) (h : sp_Hedge_m_moves K vs H Q E) : t_Hedge_m_moves P w K E { nx := fun _ H' => Q .non H', rt := Q } (start N_Hedge_m_moves vs) H := by
  obtain ⟨b, s, es, rfl, hs, hB, ok, l16, q⟩ := h
  obtain ⟨dx, t, xs, hb, ht, R⟩ := id hB
  have xl := R.1
  have mv : PySem.W.nsIn K (He.ga K "CUTS") s = some (some (.ref (kdA K "CUTS" s))) ∧ ∀ H, SqT K H (kdA K "CUTS" s) [.str (oneC s), .str "green"] := by
    rcases hs with rfl | rfl
    · exact G.l
    · exact G.r
  unfold t_Hedge_m_moves
  obtain ⟨cl, na⟩ := F
  repeat walk_at "mst"
  refine fun d nd => ?_
  generalize hq : upd H d (NvO P w d []) = H1
  have e1 := nx nd hq
  have s1 := nS hq
  clear hq
  have hb1 := e1 _ _ hb
  have ht1 := e1 _ _ ht
  repeat walk_at "mst"
  refine ⟨t, _, rfl, k_st ht1, for_enumT (xs := xs) (fun i σ H' => ∃ (kvs : List NE) (x3 x4 x5 : Option V), Ex H H' ∧ H' d = some (NvO P w d kvs) ∧ KeysV H' kvs ∧ kvs.map (·.1) = (mvsTo s es i).map keyH ∧ BsH K H' (kvs.map (·.2.2)) (mvsTo s es i) ∧ σ = [some (.ref b), some (.str s), some (.ref d), x3, x4, x5]) ⟨[], none, none, none, e1, s1, fun e m => (nomatch m), rfl, .nil, rfl⟩ ?_ ?_ ?_⟩
  · rintro i σ H' _ ⟨_, _, _, _, e, _⟩; exact k_st (e _ _ ht)
  · rintro i x σ H2 T hx ⟨kvs, x3, x4, x5, e, hd, kk, km, bs, rfl⟩ hT
    have hi := (List.getElem?_eq_some_iff.mp hx).1
    have hc := List.getElem?_eq_getElem (l := es) (i := i) (by omega)
    obtain ⟨x', hx', u, rfl, hu⟩ := R.2 i _ hc
    rw [hx] at hx'
    cases hx'
    generalize hed : es[i]'(by omega) = ed at *
    obtain ⟨one, other, col⟩ := ed
    have few : kvs.length ≤ i := by
      have := congrArg List.length km
      rw [List.length_map, List.length_map] at this
      rw [this]
      exact mvsTo_len s es i
    have e2 : Ex H2 (upd H2 T (HO.tup [V.int (i : Int), V.ref u])) := Evl.Ex.new hT
    have sT : upd H2 T (HO.tup [V.int (i : Int), V.ref u]) T = some (HO.tup [V.int (i : Int), V.ref u]) := upd_same
    generalize upd H2 T (HO.tup [V.int (i : Int), V.ref u]) = H3 at *
    have e03 := e.trans e2
    have hu3 := e03 _ _ hu
    have ht3 := e03 _ _ ht
    have hb3 := e03 _ _ hb
    have hd3 := e2 _ _ hd
    have kk3 := kk.ex e2
    have bs3 := bs.imp fun y c q => q.ex e2
    refine k_gtup (k_st sT) rfl ?_
    repeat walk_at "mst"
    refine k_kd mv ?_
    refine ⟨_, _, rfl, Or.inr (mv.2 H3), rfl, rfl, ?_⟩
    rw [cuts_in]
    refine ⟨_, rfl, k_iteB (fun hcol => ?_) (fun hcol => ?_)⟩
    rotate_left
    · have hcol : colH s col = false := hcol
      repeat walk_at "mst"
      refine ⟨kvs, _, _, _, e03, hd3, kk3, ?_, ?_, rfl⟩
      · show _ = (stepM s es (mvsTo s es i) i).map keyH
        rw [step_no hc hcol]; exact km
      · show BsH K H3 _ (stepM s es (mvsTo s es i) i)
        rw [step_no hc hcol]; exact bs3
    · have hcol : colH s col = true := hcol
      repeat walk_at "mst"
      refine k_slH ht3 fun p1 H5 e5 h5 => ?_
      rw [cut_cut (by omega)] at h5
      refine ⟨p1, _, rfl, Or.inl (k_st h5), ?_⟩
      have hb5 := e5 _ _ hb3
      have ht5 := e5 _ _ ht3
      repeat walk_at "mst"
      refine k_slH ht5 fun p2 H6 e6 h6 => ?_
      rw [show (i : Int) + 1 = ((i + 1 : Nat) : Int) by omega, cut_off (by omega)] at h6
      refine ⟨p2, _, rfl, Or.inl (k_st h6), ?_⟩
      repeat walk_at "mst"
      rw [List.append_nil]
      have ll : (xs.take i ++ xs.drop (i + 1)).length ≤ 16 := by rw [List.length_append, List.length_take, List.length_drop]; omega
      refine ⟨fits (by omega), ?_⟩
      walk_at "new"; rename_i lp nlp H7 e7 h7
      have e37 := (e5.trans e6).trans e7
      have Re : EsAt H7 (xs.take i ++ xs.drop (i + 1)) (es.eraseIdx i) := (erase_at R i).imp fun y c q => q.ex (e03.trans e37)
      have oke : ∀ e ∈ es.eraseIdx i, OkE e := fun e m => ok e (List.mem_of_mem_eraseIdx m)
      have le : (es.eraseIdx i).length ≤ 16 := Nat.le_trans (List.length_eraseIdx_le _ _) l16
      repeat walk_at "mst"
      refine mk_he (k_sq h7) Re oke le fun x H8 nx_ e8 hX => ?_
      have hX : HgAt K H8 x (cutE es i) := hX
      have e38 := e37.trans e8
      have hd8 := e38 _ _ hd3
      have kk8 := kk3.ex e38
      have bs8 := bs3.imp fun y c q => q.ex e38
      obtain ⟨dx2, t2, xs2, hI, hIt, hIR⟩ := id hX
      repeat walk_at "mst"
      refine ⟨d, kvs, rfl, hd8, ?_⟩
      repeat walk_at "mst"
      refine ⟨x, dx2, _, rfl, hI, ghe_no _ (by decide +kernel), ?_⟩
      repeat walk_at "mst"
      refine use_hevalue hX fun v H9 e9 hv => ?_
      obtain ⟨vd, rfl, kv⟩ := hv.key
      have hd9 := e9 _ _ hd8
      have kk9 := kk8.ex e9
      have bs9 := bs8.imp fun y c q => q.ex e9
      have hX9 := hX.ex e9
      have e09 := (e03.trans e38).trans e9
      repeat walk_at "mst"
      refine ⟨vd, _, kvs, keyH (cutE es i), rfl, hd9, kk9, kv, keyH_deep _, fits' (by omega), fun v hv' => ?_, fun hn => ?_⟩
      · have m : cutE es i ∈ mvsTo s es i := by
          refine Classical.byContradiction fun n => ?_
          rw [(look_keys km _).mpr n] at hv'; cases hv'
        repeat walk_at "mst"
        refine ⟨kvs, _, _, _, e09, hd9, kk9, ?_, ?_, rfl⟩
        · show _ = (stepM s es (mvsTo s es i) i).map keyH
          rw [step_in hc hcol m]; exact km
        · show BsH K H9 _ (stepM s es (mvsTo s es i) i)
          rw [step_in hc hcol m]; exact bs9
      · have m := (look_keys km _).mp hn
        have kp := kk9.put (v := .ref x) kv (keyH_deep _)
        rw [putV_new hn] at kp
        rw [putV_new hn]
        have fx := upd_fx (o1 := NvO P w d (kvs ++ [(keyH (cutE es i), vd, .ref x)])) hd9 (fun h => h)
        repeat walk_at "mst"
        refine ⟨kvs ++ [(keyH (cutE es i), vd, .ref x)], _, _, _, Evl.Ex.mut e09 nd, upd_same, kp.keep fun c ys z => fx c _ z True.intro, ?_, ?_, rfl⟩
        · show _ = (stepM s es (mvsTo s es i) i).map keyH
          rw [step_new hc hcol m, List.map_append, List.map_append, km]; rfl
        · show BsH K _ _ (stepM s es (mvsTo s es i) i)
          rw [step_new hc hcol m, List.map_append]
          exact (bs9.imp fun y c q => q.fx fx).app (.one ⟨x, rfl, hX9.fx fx⟩)
  · rintro σ H2 ⟨kvs, x3, x4, x5, e, hd, kk, km, bs, rfl⟩
    repeat walk_at "mst"
    refine ⟨d, kvs, rfl, hd, fun v nv => ?_⟩
    repeat walk_at "mst"
    refine ⟨v, d, kvs, rfl, upd_same, (upd_ne (ne_of_none hd nv)).trans hd, fun p np => ?_⟩
    have e2 : Ex H2 (upd H2 v (VwO v d)) := Evl.Ex.new nv
    have e3 : Ex (upd H2 v (VwO v d)) (upd (upd H2 v (VwO v d)) p (HO.lst (kvs.map (·.2.2)))) := Evl.Ex.new np
    have e23 := e2.trans e3
    rw [xl] at bs
    exact q p _ _ (Evl.fresh_back (e.trans e2) np) (e.trans e23) upd_same (bs.imp fun y c q => q.ex e23)
theorem use_hemoves {K : PySem.W.Frag} {H : Hp} {Q : VK} {E : XK} {b : Addr} {s : Str} {es : List Edge} (hs : s = "left" ∨ s = "right") (hB : HgAt K H b es) (ok : ∀ e ∈ es, OkE e) (l16 : es.length ≤ 16) (q : ∀ p ys H', H p = none → Ex H H' → H' p = some (.lst ys) → BsH K H' ys (mvsE s es) → Q (.ref p) H') : sp_Hedge_m_moves K (.ref b :: ([.str s] ++ [])) H Q E := ⟨b, s, es, rfl, hs, hB, ok, l16, q⟩
def sp_law_others_stay (K : PySem.W.Frag) : Sp := fun vs H Q _ => ∃ (b d : Addr) (ds : List V) (es : List Edge), vs = [.ref b, .ref d] ∧ HgAt K H b es ∧ H d = some (.lst ds) ∧ DsH H ds (partsE es) ∧ (∀ e ∈ es, OkE e) ∧ es.length ≤ 16 ∧ keptE es = es ∧ ∀ H', Ex H H' → Q (.bl true) H'
local macro_rules | `(tactic| walk_at "new") => `(tactic| ((first | refine ⟨fits (Nat.le_of_ble_eq_true rfl), ?_⟩ | skip); intro p np; generalize hq : upd _ p _ = H1; have e1 := nx np hq; have s1 := nS hq; clear hq))
abbrev N_law_others_stay : List Str := ["board", "dues", "side", "other", "values", "part", "due"]
def t_law_others_stay (K : PySem.W.Frag) (E : XK) : TS := (tSeq (tFor (iList K (tLst (tCons (tC (.str "left")) (tCons (tC (.str "right")) tNil)))) (gName 2) (tFor (iList K (tSl (rSlL K) (tMeth (He.ga K "Hedge") "moves" (sp_Hedge_m_moves K) [] E0 (tVar 0) (tCons (tVar 2) tNil)) tNoPart (tPart (tC (.int 5))))) (gName 3) (tSeq (tAsg (tLc (iList K (tMeth (He.ga K "Hedge") "parts" (sp_Hedge_m_parts K) [] E0 (tVar 3) tNil)) (gName 5) tYes (tMeth (He.ga K "Hedge") "value" (sp_Hedge_m_value K) [] E0 (tVar 5) tNil) [5]) (gName 4)) (tIfS (tTest (tOp rGtI (tCB (rLenQ K) (tCons (tLc (iList K (tVar 1)) (gName 6) (tTest (tOp (rNotInD K) (tVar 6) (tVar 4))) (tVar 6) [6]) tNil)) (tC (.int 1)))) (tRet (tC (.bl false))) tNext)))) (tRet (tC (.bl true))))
theorem len_law_others_stay {K : PySem.W.Frag} {vs : List V} {H : Hp} {Q : VK} {E : XK} (h : sp_law_others_stay K vs H Q E) : vs.length = 2 := by
  obtain ⟨_, _, _, _, rfl, _⟩ := h; rfl
open Classical in
theorem pure_law_others_stay {K : PySem.W.Frag} (vs : List V) (H : Hp) (Q : VK) (E : XK) (h : sp_law_others_stay K vs H Q E) : t_law_others_stay K E { nx := fun _ H' => Q .non H', rt := Q } (start N_law_others_stay vs) H := by
  obtain ⟨b, d, ds, es, rfl, hB, hd, dd, ok, l16, kp, q⟩ := h
  unfold t_law_others_stay
  repeat walk_at "mst"
  walk_at "new"; rename_i sp nsp H1 e1 s1
  repeat walk_at "mst"
  refine ⟨sp, rfl, ⟨_, k_sq s1⟩, forK_list (xs := [.str "left", .str "right"]) (fun i σ H' => ∃ (x2 x3 x4 x5 x6 : Option V), Ex H1 H' ∧ σ = [some (.ref b), some (.ref d), x2, x3, x4, x5, x6]) ⟨none, none, none, none, none, Evl.Ex.refl _, rfl⟩ ?_ ?_ ?_⟩
  · rintro i σ H' _ ⟨_, _, _, _, _, e, _⟩; exact k_sq (e _ _ s1)
  · rintro i x σ H2 hx ⟨x2, x3, x4, x5, x6, e2, rfl⟩
    have hs : ∃ s : Str, x = .str s ∧ (s = "left" ∨ s = "right") := by
      have m := List.mem_of_getElem? hx
      simp only [List.mem_cons, List.not_mem_nil, or_false] at m
      rcases m with rfl | rfl
      · exact ⟨_, rfl, Or.inl rfl⟩
      · exact ⟨_, rfl, Or.inr rfl⟩
    obtain ⟨s, rfl, hs⟩ := hs
    have e02 := e1.trans e2
    have hB2 := hB.ex e02
    obtain ⟨dx, bt, bx, hI, hIt, hIR⟩ := id hB2
    repeat walk_at "mst"
    refine ⟨b, dx, _, rfl, hI, ghe_no _ (by decide +kernel), ?_⟩
    repeat walk_at "mst"
    refine use_hemoves hs hB2 ok l16 fun m zs H3 nm e3 hm B => ?_
    repeat walk_at "mst"
    refine n_sl (k_sq hm) fun c H4 nc e4 hc => ?_
    rw [show (5 : Int) = ((5 : Nat) : Int) from rfl, cut_min] at hc
    have e24 := (e3.trans e4)
    have B4 := B.imp fun y c q => q.ex e4
    repeat walk_at "mst"
    refine ⟨c, rfl, ⟨_, k_sq hc⟩, forK_list (xs := zs.take 5) (fun j σ H' => ∃ (x3 x4 x5 x6 : Option V), Ex H4 H' ∧ σ = [some (.ref b), some (.ref d), some (.str s), x3, x4, x5, x6]) ⟨x3, x4, x5, x6, Evl.Ex.refl _, rfl⟩ ?_ ?_ ?_⟩
    · rintro j σ H' _ ⟨_, _, _, _, e, _⟩; exact k_sq (e _ _ hc)
    · rintro j x σ H5 hx ⟨y3, y4, y5, y6, e5, rfl⟩
      rw [List.getElem?_take] at hx
      split at hx
      rotate_left
      · cases hx
      have hj := (List.getElem?_eq_some_iff.mp hx).1
      have hz := List.getElem?_eq_getElem (l := mvsE s es) (i := j) (by rw [← B.1]; exact hj)
      obtain ⟨x', hx', o, rfl, hO⟩ := B4.2 j _ hz
      rw [hx] at hx'
      cases hx'
      have mm := List.mem_of_getElem? hz
      generalize (mvsE s es)[j]'(by rw [← B.1]; exact hj) = l at *
      obtain ⟨okl, ll, kl⟩ := mvsE_mem ok mm
      have hO5 := hO.ex e5
      obtain ⟨dx2, t2, x2', hI2, hIt2, hIR2⟩ := id hO5
      have e05 := e02.trans (e24.trans e5)
      repeat walk_at "mst"
      refine ⟨o, dx2, _, rfl, hI2, ghe_no _ (by decide +kernel), ?_⟩
      repeat walk_at "mst"
      refine use_heparts hO5 okl (by omega) kl fun pp ps H6 npp e6 hpp PB => ?_
      have pl := partsE_len l
      have psl := PB.1
      refine ⟨pp, rfl, ⟨_, k_sq hpp⟩, lcQ_list (xs := ps) (ValOf K) (valOf_lasts K) (k_sq hpp) (fits' (by omega)) ?_ ?_⟩
      · intro k y hy H'' e'' RR rr
        have hk := (List.getElem?_eq_some_iff.mp hy).1
        have hzk := List.getElem?_eq_getElem (l := partsE l) (i := k) (by omega)
        obtain ⟨y', hy', r, rfl, hR⟩ := PB.2 k _ hzk
        rw [hy] at hy'
        cases hy'
        have hR'' := hR.ex e''
        obtain ⟨dx3, t3, x3', hI3, hIt3, hIR3⟩ := id hR''
        repeat walk_at "mst"
        refine ⟨rfl, ?_⟩
        unfold tYes
        repeat walk_at "mst"
        refine ⟨r, dx3, _, rfl, hI3, ghe_no _ (by decide +kernel), ?_⟩
        repeat walk_at "mst"
        refine use_hevalue hR'' fun v H7 e7 hv => ?_
        exact rr v H7 e7 ⟨_, ⟨r, rfl, hR''.ex e7⟩, hv⟩
      · intro D ys H7 nD e7 hD yl vals
        have DV := vals_all (PB.imp fun y c q => q.ex e7) yl vals
        have e07 := e05.trans (e6.trans e7)
        have hd7 := e07 _ _ hd
        have dsl := dd.1
        have pl2 := partsE_len es
        repeat walk_at "mst"
        refine ⟨d, rfl, ⟨_, k_sq hd7⟩, lcR_list (keepD H fun P => decide (P ∉ partsE l)) (k_sq hd7) (fits' (by omega)) (fun x mx => ?_) fun L H8 nL e8 hL => ?_⟩
        · intro H'' e'' RR rr
          obtain ⟨k, hx⟩ := List.getElem?_of_mem mx
          have hk := (List.getElem?_eq_some_iff.mp hx).1
          have hzk := List.getElem?_eq_getElem (l := partsE es) (i := k) (by omega)
          obtain ⟨x', hx', at_⟩ := dd.2 k _ hzk
          rw [hx] at hx'
          cases hx'
          have mp := List.mem_of_getElem? hzk
          generalize (partsE es)[k]'(by omega) = P at *
          rw [keepD_at at_] at rr
          have rr := rr _ (Evl.Ex.refl _)
          have hD'' := e'' _ _ hD
          repeat walk_at "mst"
          refine ⟨rfl, ?_⟩
          repeat walk_at "mst"
          refine k_notInDu (at_.ex (e07.trans e'')) (k_sq hD'') (DV.imp fun y c q => q.ex e'') (parts_ok ok mp).1 (fun l' m' => (parts_ok okl m').1) fun bb hb => ?_
          refine ⟨_, rfl, k_iteB (fun z => ?_) (fun z => ?_)⟩
          · rw [if_pos (decide_eq_true (hb.mp z))] at rr
            repeat walk_at "mst"
            exact rr
          · rw [if_neg (by rw [decide_eq_true_iff]; intro n; rw [hb.mpr n] at z; cases z)] at rr
            exact rr
        · have few := others_stay kp mm
          have kl2 := keepD_len (f := fun P => decide (P ∉ partsE l)) dd
          have e08 := e07.trans e8
          repeat walk_at "mst"
          refine k_iteD (fun z => absurd z (by omega)) (fun _ => ?_)
          repeat walk_at "mst"
          exact ⟨_, _, _, _, e5.trans (e6.trans (e7.trans e8)), rfl⟩
    · rintro σ H5 ⟨y3, y4, y5, y6, e5, rfl⟩
      exact ⟨_, _, _, _, _, e2.trans (e24.trans e5), rfl⟩
  · rintro σ H2 ⟨x2, x3, x4, x5, x6, e2, rfl⟩
    repeat walk_at "mst"
    exact q _ (e1.trans e2)
theorem use_others {K : PySem.W.Frag} {H : Hp} {Q : VK} {E : XK} {b d : Addr} {ds : List V} {es : List Edge} (hB : HgAt K H b es) (hd : H d = some (.lst ds)) (dd : DsH H ds (partsE es)) (ok : ∀ e ∈ es, OkE e) (l16 : es.length ≤ 16) (kp : keptE es = es) (q : ∀ H', Ex H H' → Q (.bl true) H') : sp_law_others_stay K ([.ref b, .ref d] ++ []) H Q E := ⟨b, d, ds, es, rfl, hB, hd, dd, ok, l16, kp, q⟩
def sp_law (K : PySem.W.Frag) : Sp := spR (fun vs H => ∃ (a : Addr) (ns : List Int), vs = [.ref a] ∧ SqL K H a (ns.map V.int)) (fun _ _ v _ => v = .bl true)
local macro_rules | `(tactic| walk_at "new") => `(tactic| ((first | refine ⟨fits (Nat.le_of_ble_eq_true rfl), ?_⟩ | skip); intro p np; generalize hq : upd _ p _ = H1; have e1 := nx np hq; have s1 := nS hq; clear hq))
abbrev N_law : List Str := ["script", "edges", "board", "hanging", "dues", "due", "part"]
def t_law (K : PySem.W.Frag) (E : XK) : TS := (tSeq (tAsg (tCall (sp_law_edges K) [] E0 (tCons (tCall (sp_law_cell K) [] E0 (tCons (tVar 0) (tCons (tC (.int 0)) tNil))) (tCons (tC (.int 16)) tNil))) (gName 1)) (tSeq (tAsg (tMake (He.ga K "Hedge") (sp_Hedge_d_init K) [] E0 (tCons (tCB (rListQ K) (tCons (tVar 1) tNil)) tNil)) (gName 2)) (tSeq (tAsg (tCall (sp_law_hanging K) [] E0 (tCons (tVar 1) tNil)) (gName 3)) (tSeq (tAsg (tCall (sp_law_hedge_parts K) [] E0 (tCons (tVar 3) tNil)) (gName 4)) (tSeq (tIfS (tOr (tNot (tB (tCall (sp_law_told K) [] E0 (tCons (tMeth (He.ga K "Hedge") "parts" (sp_Hedge_m_parts K) [] E0 (tVar 2) tNil) (tCons (tVar 4) tNil))))) (tNot (tB (tCall (sp_law_told K) [] E0 (tCons (tMeth (He.ga K "Hedge") "parts" (sp_Hedge_m_parts K) [] E0 (tVar 2) tNil) (tCons (tVar 4) tNil)))))) (tRet (tC (.bl false))) tNext) (tSeq (tIfS (tTest (tOp rNe (tCB (rSum K) (tCons (tLc (iList K (tVar 4)) (gName 5) tYes (tCB (rLenQ K) (tCons (tOp (rIxT K) (tVar 5) (tC (.int 1))) tNil)) [5]) tNil)) (tCB (rLenQ K) (tCons (tVar 3) tNil)))) (tRet (tC (.bl false))) tNext) (tSeq (tFor (iList K (tMeth (He.ga K "Hedge") "parts" (sp_Hedge_m_parts K) [] E0 (tVar 2) tNil)) (gName 6) (tIfS (tNot (tB (tCall (sp_law_told K) [] E0 (tCons (tMeth (He.ga K "Hedge") "parts" (sp_Hedge_m_parts K) [] E0 (tVar 6) tNil) (tCons (tLst (tCons (tMeth (He.ga K "Hedge") "value" (sp_Hedge_m_value K) [] E0 (tVar 6) tNil) tNil)) tNil))))) (tRet (tC (.bl false))) tNext)) (tRet (tAndV (tCall (sp_law_others_stay K) [] E0 (tCons (tVar 2) (tCons (tVar 4) tNil))) (tCall (sp_law_same K 5) [] E0 (tCons (tMeth (He.ga K "Hedge") "value" (sp_Hedge_m_value K) [] E0 (tVar 2) tNil) (tCons (tTup (tCons (tC (.str "hedge")) (tCons (tVar 3) tNil))) tNil))))))))))))
theorem len_law {K : PySem.W.Frag} {vs : List V} {H : Hp} {Q : VK} {E : XK} (h : sp_law K vs H Q E) : vs.length = 1 := by
  obtain ⟨⟨_, _, rfl, _⟩, _⟩ := h; rfl
theorem told_ex {H H' : Hp} {p : Addr} (np : H p = none) {H0 : Hp} (e : Ex H H0) (k : ∀ c o, H0 c = some o → c ≠ p → H' c = some o) : Ex H H' := fun c o z => k c o (e _ _ z) (ne_of_none z np)
theorem pure_law {K : PySem.W.Frag} (vs : List V) (H : Hp) (Q : VK) (E : XK) (h : sp_law K vs H Q E) : t_law K E { nx := fun _ H' => Q .non H', rt := Q } (start N_law vs) H := by
  obtain ⟨⟨a, sc, rfl, hS⟩, q⟩ := h
  have fin : ∀ b H', b = true → Q (.bl b) H' := by rintro b H' rfl; exact q _ _ rfl
  unfold t_law
  repeat walk_at "mst"
  refine use_cell hS (by decide) ?_
  generalize cellF sc 0 = c0
  repeat walk_at "mst"
  refine use_edges fun ea ys H1 nea e1 hea R => ?_
  obtain ⟨l16, ok⟩ := edgesF_ok c0
  generalize edgesF c0 = es at *
  repeat walk_at "mst"
  walk_at "new"; rename_i pa npa H2 e2 hpa
  repeat walk_at "mst"
  refine mk_he (k_sq hpa) (R.imp fun y c q => q.ex e2) ok l16 fun b H3 nb e3 hB => ?_
  have e23 := e2.trans e3
  repeat walk_at "mst"
  refine use_hanging (k_sq (e23 _ _ hea)) (R.imp fun y c q => q.ex e23) ok l16 fun vt vs H4 e4 hvt hvR => ?_
  have hB4 := hB.ex e4
  have l16' := Nat.le_trans (kept_lenM es) l16
  have ok' := kept_okM ok
  have kp := kept_keptM es
  generalize keptE es = es at *
  have vl := hvR.1
  have pl := partsE_len es
  have okp : ∀ P ∈ partsE es, (∀ e ∈ P, OkE e) ∧ P.length ≤ 16 := fun P m => let z := parts_ok ok' m; ⟨z.1, by omega⟩
  repeat walk_at "mst"
  refine use_lhparts hvt hvR ok' l16' fun dp ds H5 ndp e5 hdp D5 => ?_
  have hB5 := hB4.ex e5
  obtain ⟨dx, bt, bx, hI, hIt, hIR⟩ := id hB5
  have dl := D5.1
  repeat walk_at "mst"
  refine ⟨b, dx, _, rfl, hI, ghe_no _ (by decide +kernel), ?_⟩
  repeat walk_at "mst"
  refine use_heparts hB5 ok' l16' kp fun p1 ps1 H6 np1 e6 hp1 B1 => ?_
  repeat walk_at "mst"
  refine use_hetold hp1 (k_sq (e6 _ _ hdp)) B1 (D5.imp fun y c q => q.ex e6) (by omega) okp fun H7 k7 => ?_
  have e57 := told_ex np1 e6 k7
  have hI7 := e57 _ _ hI
  repeat walk_at "mst"
  refine ⟨b, dx, _, rfl, hI7, ghe_no _ (by decide +kernel), ?_⟩
  repeat walk_at "mst"
  refine use_heparts (hB5.ex e57) ok' l16' kp fun p2 ps2 H8 np2 e8 hp2 B2 => ?_
  repeat walk_at "mst"
  refine use_hetold hp2 (k_sq (e8 _ _ (e57 _ _ hdp))) B2 (D5.imp fun y c q => q.ex (e57.trans e8)) (by omega) okp fun H9 k9 => ?_
  have e59 := e57.trans (told_ex np2 e8 k9)
  have hdp9 := e59 _ _ hdp
  have hvt9 := e59 _ _ (e5 _ _ hvt)
  have hB9 := hB5.ex e59
  have D9 := D5.imp fun y c q => q.ex e59
  have hvR9 := hvR.imp fun y c q => q.ex (e5.trans e59)
  clear hB hB4 hB5 hI hIt hIR hI7 D5 hvR hvt hdp hp1 hp2 B1 B2 e6 k7 e57 e8 k9 e59 e5 e4 e23 e3 e2 e1 hpa hea R hS np1 np2 ndp nb npa nea ok l16
  repeat walk_at "mst"
  refine ⟨dp, rfl, ⟨_, k_sq hdp9⟩, lcR_list (lenD H9) (k_sq hdp9) (fits' (by omega)) (fun x mx => ?_) fun L HA nL eA hL => ?_⟩
  · intro H'' e'' RR rr
    obtain ⟨k, hx⟩ := List.getElem?_of_mem mx
    have hk := (List.getElem?_eq_some_iff.mp hx).1
    have hzk := List.getElem?_eq_getElem (l := partsE es) (i := k) (by omega)
    obtain ⟨x', hx', at_⟩ := D9.2 k _ hzk
    rw [hx] at hx'
    cases hx'
    generalize (partsE es)[k]'(by omega) = P at *
    rw [lenD_at at_] at rr
    have rr := rr _ (Evl.Ex.refl _)
    obtain ⟨u, w, ws, rfl, hu, hw, W⟩ := at_.ex e''
    have wl := W.1
    repeat walk_at "mst"
    refine ⟨rfl, ?_⟩
    unfold tYes
    repeat walk_at "mst"
    rw [wl]
    exact rr
  rw [lenD_list D9] at hL
  have hvtA := eA _ _ hvt9
  repeat walk_at "mst"
  refine ⟨L, _, rfl, k_sq hL, ?_⟩
  rw [sum_nat, parts_sum]
  repeat walk_at "mst"
  refine k_iteD (fun z => absurd (show (es.length : Int) = (vs.length : Int) by omega) z) (fun _ => ?_)
  have hBA := hB9.ex eA
  have hdpA := eA _ _ hdp9
  have DA := D9.imp fun y c q => q.ex eA
  have hvRA := hvR9.imp fun y c q => q.ex eA
  obtain ⟨dx, bt, bx, hI, hIt, hIR⟩ := id hBA
  clear hB9 hdp9 D9 hvR9 hvt9 hL nL eA
  repeat walk_at "mst"
  refine ⟨b, dx, _, rfl, hI, ghe_no _ (by decide +kernel), ?_⟩
  repeat walk_at "mst"
  refine use_heparts hBA ok' l16' kp fun p3 ps HB np3 eB hp3 B3 => ?_
  have b3l := B3.1
  refine ⟨p3, rfl, ⟨_, k_sq hp3⟩, forK_list (xs := ps) (fun i σ H' => ∃ (x5 x6 : Option V), Ex HB H' ∧ σ = [some (.ref a), some (.ref ea), some (.ref b), some (.ref vt), some (.ref dp), x5, x6]) ⟨none, none, Evl.Ex.refl _, rfl⟩ ?_ ?_ ?_⟩
  · rintro i σ H' _ ⟨_, _, e, _⟩; exact k_sq (e _ _ hp3)
  · rintro i x σ HC hx ⟨x5, x6, eC, rfl⟩
    have hi := (List.getElem?_eq_some_iff.mp hx).1
    have hz := List.getElem?_eq_getElem (l := partsE es) (i := i) (by omega)
    obtain ⟨x', hx', o, rfl, hO⟩ := B3.2 i _ hz
    rw [hx] at hx'
    cases hx'
    have mp := List.mem_of_getElem? hz
    generalize (partsE es)[i]'(by omega) = P at *
    obtain ⟨okP, lP⟩ := okp P mp
    have kP := part_kept kp mp
    have oneP := parts_part mp
    have hOC := hO.ex eC
    obtain ⟨dx2, t2, x2', hI2, hIt2, hIR2⟩ := id hOC
    repeat walk_at "mst"
    refine ⟨o, dx2, _, rfl, hI2, ghe_no _ (by decide +kernel), ?_⟩
    repeat walk_at "mst"
    refine use_heparts hOC okP lP kP fun p4 qs HD np4 eD hp4 B4 => ?_
    rw [oneP] at B4
    have hI2D := eD _ _ hI2
    repeat walk_at "mst"
    refine ⟨o, dx2, _, rfl, hI2D, ghe_no _ (by decide +kernel), ?_⟩
    repeat walk_at "mst"
    refine use_hevalue (hOC.ex eD) fun v HE eE hv => ?_
    repeat walk_at "mst"
    walk_at "new"; rename_i lv nlv HF eF hlv
    have eEF := eE.trans eF
    repeat walk_at "mst"
    refine use_hetold (eEF _ _ hp4) (k_sq hlv) (B4.imp fun y c q => q.ex eEF) (.one (hv.ex eF)) (by show 1 ≤ 2000; decide) (fun l m => by rw [List.mem_singleton.mp m]; exact ⟨okP, lP⟩) fun HG kG => ?_
    have eCG := told_ex np4 (eD.trans eEF) kG
    repeat walk_at "mst"
    exact ⟨_, _, eC.trans eCG, rfl⟩
  · rintro σ HC ⟨x5, x6, eC, rfl⟩
    have eAC := eB.trans eC
    have hBC := hBA.ex eAC
    repeat walk_at "mst"
    refine use_others hBC (eAC _ _ hdpA) (DA.imp fun y c q => q.ex eAC) ok' l16' kp fun HD eD => ?_
    have hBD := hBC.ex eD
    have eAD := eAC.trans eD
    obtain ⟨dx4, bt4, bx4, hI4, hIt4, hIR4⟩ := id hBD
    have hvtD := eAD _ _ hvtA
    repeat walk_at "mst"
    refine ⟨b, dx4, _, rfl, hI4, ghe_no _ (by decide +kernel), ?_⟩
    repeat walk_at "mst"
    refine use_hevalue hBD fun v HE eE hv => ?_
    repeat walk_at "mst"
    walk_at "new"; rename_i vd nvd HF eF hvd
    have eEF := eE.trans eF
    repeat walk_at "mst"
    refine use_same (he_sameM (hv.ex eF) ⟨vd, vt, _, rfl, hvd, eEF _ _ hvtD, hvRA.imp fun y c q => q.ex (eAD.trans eEF)⟩ ok' l16') ?_
    exact fin _ _ rfl
def top (i : Nat) : Stmt := PySem.Challenge.pw_sumsplay_k57_parts_of_hedges.main.body.getD i (.Pass ⟨0, 0, 0, 0⟩)
abbrev s_law_digits : Stmt := top 16
abbrev R_law_digits : List Str := ["cell", "count", "row", "k", "seed"]
theorem sc_law_digits : FnScope R_law_digits ["cell", "count"] (defScope s_law_digits) := ⟨rfl, rfl, rfl, by decide +kernel, rfl, by decide +kernel, by decide +kernel⟩
abbrev ad_law_digits (K : PySem.W.Frag) : Addr := He.ga K "_law_digits"
abbrev s_law_edges : Stmt := top 20
abbrev R_law_edges : List Str := ["cell", "most", "digits", "reach", "grown", "edges", "k", "one", "other"]
theorem sc_law_edges : FnScope R_law_edges ["cell", "most"] (defScope s_law_edges) := ⟨rfl, rfl, rfl, by decide +kernel, rfl, by decide +kernel, by decide +kernel⟩
abbrev ad_law_edges (K : PySem.W.Frag) : Addr := He.ga K "_law_edges"
abbrev s_law_cell : Stmt := top 15
abbrev R_law_cell : List Str := ["script", "k", "mixed", "cell"]
theorem sc_law_cell : FnScope R_law_cell ["script", "k"] (defScope s_law_cell) := ⟨rfl, rfl, rfl, by decide +kernel, rfl, by decide +kernel, by decide +kernel⟩
abbrev ad_law_cell (K : PySem.W.Frag) : Addr := He.ga K "_law_cell"
abbrev s_is_whole : Stmt := top 4
abbrev R_is_whole : List Str := ["thing", "least", "most"]
theorem sc_is_whole : FnScope R_is_whole ["thing", "least", "most"] (defScope s_is_whole) := ⟨rfl, rfl, rfl, by decide +kernel, rfl, by decide +kernel, by decide +kernel⟩
abbrev ad_is_whole (K : PySem.W.Frag) : Addr := He.ga K "is_whole"
abbrev s_check_edge : Stmt := top 12
abbrev R_check_edge : List Str := ["edge", "knot"]
theorem sc_check_edge : FnScope R_check_edge ["edge"] (defScope s_check_edge) := ⟨rfl, rfl, rfl, by decide +kernel, rfl, by decide +kernel, by decide +kernel⟩
abbrev ad_check_edge (K : PySem.W.Frag) : Addr := He.ga K "_check_edge"
abbrev s_reached : Stmt := top 13
abbrev R_reached : List Str := ["edges", "knots", "found", "knot", "grown", "one", "other", "_"]
theorem sc_reached : FnScope R_reached ["edges", "knots"] (defScope s_reached) := ⟨rfl, rfl, rfl, by decide +kernel, rfl, by decide +kernel, by decide +kernel⟩
abbrev ad_reached (K : PySem.W.Frag) : Addr := He.ga K "_reached"
abbrev s_Hedge_d_init : Stmt := inClass (top 11) 0
abbrev R_Hedge_d_init : List Str := ["self", "edges", "edge", "held"]
theorem sc_Hedge_d_init : FnScope R_Hedge_d_init ["self", "edges"] (defScope s_Hedge_d_init) := ⟨rfl, rfl, rfl, by decide +kernel, rfl, by decide +kernel, by decide +kernel⟩
abbrev ad_Hedge_d_init (K : PySem.W.Frag) : Addr := He.ma K (He.ga K "Hedge") "__init__"
abbrev s_law_hanging : Stmt := top 18
abbrev R_law_hanging : List Str := ["edges", "knots", "turn", "many", "edge"]
theorem sc_law_hanging : FnScope R_law_hanging ["edges"] (defScope s_law_hanging) := ⟨rfl, rfl, rfl, by decide +kernel, rfl, by decide +kernel, by decide +kernel⟩
abbrev ad_law_hanging (K : PySem.W.Frag) : Addr := He.ga K "_law_hanging"
abbrev s_law_hedge_parts : Stmt := top 19
abbrev R_law_hedge_parts : List Str := ["edges", "found", "taken", "first", "knots", "knot", "turn", "many", "edge", "part", "k"]
theorem sc_law_hedge_parts : FnScope R_law_hedge_parts ["edges"] (defScope s_law_hedge_parts) := ⟨rfl, rfl, rfl, by decide +kernel, rfl, by decide +kernel, by decide +kernel⟩
abbrev ad_law_hedge_parts (K : PySem.W.Frag) : Addr := He.ga K "_law_hedge_parts"
abbrev s_law_same : Stmt := top 17
abbrev R_law_same : List Str := ["told", "due", "k"]
theorem sc_law_same : FnScope R_law_same ["told", "due"] (defScope s_law_same) := ⟨rfl, rfl, rfl, by decide +kernel, rfl, by decide +kernel, by decide +kernel⟩
abbrev ad_law_same (K : PySem.W.Frag) : Addr := He.ga K "_law_same"
abbrev s_Hedge_m_value : Stmt := inClass (top 11) 2
abbrev R_Hedge_m_value : List Str := ["self"]
theorem sc_Hedge_m_value : FnScope R_Hedge_m_value ["self"] (defScope s_Hedge_m_value) := ⟨rfl, rfl, rfl, by decide +kernel, rfl, by decide +kernel, by decide +kernel⟩
abbrev ad_Hedge_m_value (K : PySem.W.Frag) : Addr := He.ma K (He.ga K "Hedge") "value"
abbrev s_law_told : Stmt := top 21
abbrev R_law_told : List Str := ["boards", "dues", "k"]
theorem sc_law_told : FnScope R_law_told ["boards", "dues"] (defScope s_law_told) := ⟨rfl, rfl, rfl, by decide +kernel, rfl, by decide +kernel, by decide +kernel⟩
abbrev ad_law_told (K : PySem.W.Frag) : Addr := He.ga K "_law_told"
abbrev s_Hedge_p_together : Stmt := inClass (top 11) 4
abbrev R_Hedge_p_together : List Str := ["self", "at", "start", "knot", "knots", "edge", "place", "one", "other", "_"]
theorem sc_Hedge_p_together : FnScope R_Hedge_p_together ["self", "at"] (defScope s_Hedge_p_together) := ⟨rfl, rfl, rfl, by decide +kernel, rfl, by decide +kernel, by decide +kernel⟩
abbrev ad_Hedge_p_together (K : PySem.W.Frag) : Addr := He.ma K (He.ga K "Hedge") "_together"
abbrev s_Hedge_m_parts : Stmt := inClass (top 11) 3
abbrev R_Hedge_m_parts : List Str := ["self", "found", "done", "at", "together", "place"]
theorem sc_Hedge_m_parts : FnScope R_Hedge_m_parts ["self"] (defScope s_Hedge_m_parts) := ⟨rfl, rfl, rfl, by decide +kernel, rfl, by decide +kernel, by decide +kernel⟩
abbrev ad_Hedge_m_parts (K : PySem.W.Frag) : Addr := He.ma K (He.ga K "Hedge") "parts"
abbrev s_Hedge_m_moves : Stmt := inClass (top 11) 1
abbrev R_Hedge_m_moves : List Str := ["self", "side", "found", "at", "edge", "board"]
theorem sc_Hedge_m_moves : FnScope R_Hedge_m_moves ["self", "side"] (defScope s_Hedge_m_moves) := ⟨rfl, rfl, rfl, by decide +kernel, rfl, by decide +kernel, by decide +kernel⟩
abbrev ad_Hedge_m_moves (K : PySem.W.Frag) : Addr := He.ma K (He.ga K "Hedge") "moves"
abbrev s_law_others_stay : Stmt := top 22
abbrev R_law_others_stay : List Str := ["board", "dues", "side", "other", "values", "part", "due"]
theorem sc_law_others_stay : FnScope R_law_others_stay ["board", "dues"] (defScope s_law_others_stay) := ⟨rfl, rfl, rfl, by decide +kernel, rfl, by decide +kernel, by decide +kernel⟩
abbrev ad_law_others_stay (K : PySem.W.Frag) : Addr := He.ga K "_law_others_stay"
abbrev s_law : Stmt := top 23
abbrev R_law : List Str := ["script", "edges", "board", "hanging", "dues", "due", "part"]
theorem sc_law : FnScope R_law ["script"] (defScope s_law) := ⟨rfl, rfl, rfl, by decide +kernel, rfl, by decide +kernel, by decide +kernel⟩
abbrev ad_law (K : PySem.W.Frag) : Addr := He.ga K "law"
structure Txt (w : World) (K : PySem.W.Frag) (mg : Str → Option Value) : Prop where
  kd_CUTS : ∃ es n, KDict K w (He.ga K "CUTS") es n
  g_BadValue : mg "BadValue" = some (.ref (He.ga K "BadValue"))
  g_COLOURS : mg "COLOURS" = some (.ref (He.ga K "COLOURS"))
  g_CUTS : mg "CUTS" = some (.ref (He.ga K "CUTS"))
  g_Hedge : mg "Hedge" = some (.ref (He.ga K "Hedge"))
  g__check_edge : mg "_check_edge" = some (.ref (He.ga K "_check_edge"))
  g__law_cell : mg "_law_cell" = some (.ref (He.ga K "_law_cell"))
  g__law_digits : mg "_law_digits" = some (.ref (He.ga K "_law_digits"))
  g__law_edges : mg "_law_edges" = some (.ref (He.ga K "_law_edges"))
  g__law_hanging : mg "_law_hanging" = some (.ref (He.ga K "_law_hanging"))
  g__law_hedge_parts : mg "_law_hedge_parts" = some (.ref (He.ga K "_law_hedge_parts"))
  g__law_others_stay : mg "_law_others_stay" = some (.ref (He.ga K "_law_others_stay"))
  g__law_same : mg "_law_same" = some (.ref (He.ga K "_law_same"))
  g__law_told : mg "_law_told" = some (.ref (He.ga K "_law_told"))
  g__reached : mg "_reached" = some (.ref (He.ga K "_reached"))
  g_is_whole : mg "is_whole" = some (.ref (He.ga K "is_whole"))
  g_law : mg "law" = some (.ref (He.ga K "law"))
  z_bool : mg "bool" = none
  z_enumerate : mg "enumerate" = none
  z_int : mg "int" = none
  z_isinstance : mg "isinstance" = none
  z_len : mg "len" = none
  z_list : mg "list" = none
  z_min : mg "min" = none
  z_range : mg "range" = none
  z_str : mg "str" = none
  z_sum : mg "sum" = none
  z_tuple : mg "tuple" = none
  z_type : mg "type" = none
  tx_COLOURS : ∀ H, SqT K H (He.ga K "COLOURS") [V.str "blue", V.str "green", V.str "red"]
  tk_CUTS_left : PySem.W.nsIn K (He.ga K "CUTS") "left" = some (some (.ref (kdA K "CUTS" "left"))) ∧ ∀ H, SqT K H (kdA K "CUTS" "left") [V.str "blue", V.str "green"]
  tk_CUTS_right : PySem.W.nsIn K (He.ga K "CUTS") "right" = some (some (.ref (kdA K "CUTS" "right"))) ∧ ∀ H, SqT K H (kdA K "CUTS" "right") [V.str "red", V.str "green"]
  c_GROUND : ∃ t, mg "GROUND" = some (.int (0) t)
  c_MOST_EDGES : ∃ t, mg "MOST_EDGES" = some (.int (16) t)
  c_MOST_KNOT : ∃ t, mg "MOST_KNOT" = some (.int (15) t)
  cl_Hedge : Cls K (He.ga K "Hedge")
  x_BadValue : PySem.W.excIn K (He.ga K "BadValue") He.veBase "ValueError.__new__" = true ∧ PySem.W.keepIn K (.ref (He.ga K "BadValue")) = true ∧ PySem.W.subIn K (.ref (He.ga K "BadValue")) (.type "BaseException") = some true ∧ PySem.W.typeIn K (.ref (He.ga K "BadValue")) = some (.type "type")
  ic_Hedge : C8.InsC K (He.ga K "Hedge")
  mt_Hedge__together : Meth K (He.ga K "Hedge") "_together" (He.ma K (He.ga K "Hedge") "_together")
  mt_Hedge_moves : Meth K (He.ga K "Hedge") "moves" (He.ma K (He.ga K "Hedge") "moves")
  mt_Hedge_parts : Meth K (He.ga K "Hedge") "parts" (He.ma K (He.ga K "Hedge") "parts")
  mt_Hedge_value : Meth K (He.ga K "Hedge") "value" (He.ma K (He.ga K "Hedge") "value")
  mk_Hedge : Mk K (He.ga K "Hedge") (He.ma K (He.ga K "Hedge") "__init__")
  na_Hedge__edges : NoAttr K (He.ga K "Hedge") "_edges"
  d_law_digits : ∃ fd, FunD K "_law_digits" "_law_digits" (defArgs s_law_digits) (defBody s_law_digits) (defScope s_law_digits) [] [] (ad_law_digits K) fd
  d_law_edges : ∃ fd, FunD K "_law_edges" "_law_edges" (defArgs s_law_edges) (defBody s_law_edges) (defScope s_law_edges) [] [] (ad_law_edges K) fd
  d_law_cell : ∃ fd, FunD K "_law_cell" "_law_cell" (defArgs s_law_cell) (defBody s_law_cell) (defScope s_law_cell) [] [] (ad_law_cell K) fd
  d_is_whole : ∃ fd, FunD K "is_whole" "is_whole" (defArgs s_is_whole) (defBody s_is_whole) (defScope s_is_whole) [] [] (ad_is_whole K) fd
  d_check_edge : ∃ fd, FunD K "_check_edge" "_check_edge" (defArgs s_check_edge) (defBody s_check_edge) (defScope s_check_edge) [] [] (ad_check_edge K) fd
  d_reached : ∃ fd, FunD K "_reached" "_reached" (defArgs s_reached) (defBody s_reached) (defScope s_reached) [] [] (ad_reached K) fd
  d_Hedge_d_init : ∃ fd, FunD K "__init__" "Hedge.__init__" (defArgs s_Hedge_d_init) (defBody s_Hedge_d_init) (defScope s_Hedge_d_init) [] [] (ad_Hedge_d_init K) fd
  d_law_hanging : ∃ fd, FunD K "_law_hanging" "_law_hanging" (defArgs s_law_hanging) (defBody s_law_hanging) (defScope s_law_hanging) [] [] (ad_law_hanging K) fd
  d_law_hedge_parts : ∃ fd, FunD K "_law_hedge_parts" "_law_hedge_parts" (defArgs s_law_hedge_parts) (defBody s_law_hedge_parts) (defScope s_law_hedge_parts) [] [] (ad_law_hedge_parts K) fd
  d_law_same : ∃ fd, FunD K "_law_same" "_law_same" (defArgs s_law_same) (defBody s_law_same) (defScope s_law_same) [] [] (ad_law_same K) fd
  d_Hedge_m_value : ∃ fd, FunD K "value" "Hedge.value" (defArgs s_Hedge_m_value) (defBody s_Hedge_m_value) (defScope s_Hedge_m_value) [] [] (ad_Hedge_m_value K) fd
  d_law_told : ∃ fd, FunD K "_law_told" "_law_told" (defArgs s_law_told) (defBody s_law_told) (defScope s_law_told) [] [] (ad_law_told K) fd
  d_Hedge_p_together : ∃ fd, FunD K "_together" "Hedge._together" (defArgs s_Hedge_p_together) (defBody s_Hedge_p_together) (defScope s_Hedge_p_together) [] [] (ad_Hedge_p_together K) fd
  d_Hedge_m_parts : ∃ fd, FunD K "parts" "Hedge.parts" (defArgs s_Hedge_m_parts) (defBody s_Hedge_m_parts) (defScope s_Hedge_m_parts) [] [] (ad_Hedge_m_parts K) fd
  d_Hedge_m_moves : ∃ fd, FunD K "moves" "Hedge.moves" (defArgs s_Hedge_m_moves) (defBody s_Hedge_m_moves) (defScope s_Hedge_m_moves) [] [] (ad_Hedge_m_moves K) fd
  d_law_others_stay : ∃ fd, FunD K "_law_others_stay" "_law_others_stay" (defArgs s_law_others_stay) (defBody s_law_others_stay) (defScope s_law_others_stay) [] [] (ad_law_others_stay K) fd
  d_law : ∃ fd, FunD K "law" "law" (defArgs s_law) (defBody s_law) (defScope s_law) [] [] (ad_law K) fd
theorem Txt.FHedge {w : World} {K : PySem.W.Frag} {mg : Str → Option Value} (T : Txt w K mg) : FHedge K := ⟨T.cl_Hedge, T.na_Hedge__edges⟩
theorem Txt.FCOLOURS {w : World} {K : PySem.W.Frag} {mg : Str → Option Value} (T : Txt w K mg) : FCOLOURS K := ⟨T.tx_COLOURS⟩
theorem Txt.FCUTS {w : World} {K : PySem.W.Frag} {mg : Str → Option Value} (T : Txt w K mg) : FCUTS K := ⟨T.tk_CUTS_left, T.tk_CUTS_right⟩
abbrev O_law_digits (P : Program) (w : World) (K : PySem.W.Frag) (mg : Str → Option Value) (base : Heap) : Prop := DefOk P w K mg base CX0 1 "_law_digits" "_law_digits" s_law_digits [] (ad_law_digits K) ["cell", "count"] (sp_law_digits K)
abbrev O_law_edges (P : Program) (w : World) (K : PySem.W.Frag) (mg : Str → Option Value) (base : Heap) : Prop := DefOk P w K mg base CX0 2 "_law_edges" "_law_edges" s_law_edges [] (ad_law_edges K) ["cell", "most"] (sp_law_edges K)
abbrev O_law_cell (P : Program) (w : World) (K : PySem.W.Frag) (mg : Str → Option Value) (base : Heap) : Prop := DefOk P w K mg base CX0 1 "_law_cell" "_law_cell" s_law_cell [] (ad_law_cell K) ["script", "k"] (sp_law_cell K)
abbrev O_is_whole (P : Program) (w : World) (K : PySem.W.Frag) (mg : Str → Option Value) (base : Heap) : Prop := DefOk P w K mg base CX0 1 "is_whole" "is_whole" s_is_whole [] (ad_is_whole K) ["thing", "least", "most"] (sp_is_whole K)
abbrev O_check_edge (P : Program) (w : World) (K : PySem.W.Frag) (mg : Str → Option Value) (base : Heap) : Prop := DefOk P w K mg base (L2.CX P w) 2 "_check_edge" "_check_edge" s_check_edge [] (ad_check_edge K) ["edge"] (sp_check_edge K)
abbrev O_reached (P : Program) (w : World) (K : PySem.W.Frag) (mg : Str → Option Value) (base : Heap) : Prop := DefOk P w K mg base CX0 1 "_reached" "_reached" s_reached [] (ad_reached K) ["edges", "knots"] (sp_reached K)
abbrev O_Hedge_d_init (P : Program) (w : World) (K : PySem.W.Frag) (mg : Str → Option Value) (base : Heap) : Prop := DefOk P w K mg base (L2.CX P w) 3 "__init__" "Hedge.__init__" s_Hedge_d_init [] (ad_Hedge_d_init K) ["self", "edges"] (sp_Hedge_d_init K)
abbrev O_law_hanging (P : Program) (w : World) (K : PySem.W.Frag) (mg : Str → Option Value) (base : Heap) : Prop := DefOk P w K mg base CX0 1 "_law_hanging" "_law_hanging" s_law_hanging [] (ad_law_hanging K) ["edges"] (sp_law_hanging K)
abbrev O_law_hedge_parts (P : Program) (w : World) (K : PySem.W.Frag) (mg : Str → Option Value) (base : Heap) : Prop := DefOk P w K mg base CX0 1 "_law_hedge_parts" "_law_hedge_parts" s_law_hedge_parts [] (ad_law_hedge_parts K) ["edges"] (sp_law_hedge_parts K)
abbrev O_law_same (P : Program) (w : World) (K : PySem.W.Frag) (mg : Str → Option Value) (base : Heap) : Prop := DefOk P w K mg base CX0 6 "_law_same" "_law_same" s_law_same [] (ad_law_same K) ["told", "due"] (sp_law_same K 5)
abbrev O_Hedge_m_value (P : Program) (w : World) (K : PySem.W.Frag) (mg : Str → Option Value) (base : Heap) : Prop := DefOk P w K mg base CX0 1 "value" "Hedge.value" s_Hedge_m_value [] (ad_Hedge_m_value K) ["self"] (sp_Hedge_m_value K)
abbrev O_law_told (P : Program) (w : World) (K : PySem.W.Frag) (mg : Str → Option Value) (base : Heap) : Prop := DefOk P w K mg base CX0 7 "_law_told" "_law_told" s_law_told [] (ad_law_told K) ["boards", "dues"] (sp_law_told K)
abbrev O_Hedge_p_together (P : Program) (w : World) (K : PySem.W.Frag) (mg : Str → Option Value) (base : Heap) : Prop := DefOk P w K mg base CX0 2 "_together" "Hedge._together" s_Hedge_p_together [] (ad_Hedge_p_together K) ["self", "at"] (sp_Hedge_p_together K)
abbrev O_Hedge_m_parts (P : Program) (w : World) (K : PySem.W.Frag) (mg : Str → Option Value) (base : Heap) : Prop := DefOk P w K mg base CX0 5 "parts" "Hedge.parts" s_Hedge_m_parts [] (ad_Hedge_m_parts K) ["self"] (sp_Hedge_m_parts K)
abbrev O_Hedge_m_moves (P : Program) (w : World) (K : PySem.W.Frag) (mg : Str → Option Value) (base : Heap) : Prop := DefOk P w K mg base CX0 5 "moves" "Hedge.moves" s_Hedge_m_moves [] (ad_Hedge_m_moves K) ["self", "side"] (sp_Hedge_m_moves K)
abbrev O_law_others_stay (P : Program) (w : World) (K : PySem.W.Frag) (mg : Str → Option Value) (base : Heap) : Prop := DefOk P w K mg base CX0 6 "_law_others_stay" "_law_others_stay" s_law_others_stay [] (ad_law_others_stay K) ["board", "dues"] (sp_law_others_stay K)
abbrev O_law (P : Program) (w : World) (K : PySem.W.Frag) (mg : Str → Option Value) (base : Heap) : Prop := DefOk P w K mg base CX0 8 "law" "law" s_law [] (ad_law K) ["script"] (sp_law K)
theorem ok_law_digits {P : Program} {w : World} {K : PySem.W.Frag} {mg : Str → Option Value} {base : Heap} (T : Txt w K mg)  : O_law_digits P w K mg base := by
  obtain ⟨fd, X⟩ := T.d_law_digits
  refine ⟨fd, X, X.ok sc_law_digits (fun vs H Q E h => len_law_digits h) (fun cdv A outer s H vs Q E hr h => ⟨t_law_digits K E, PSs.nox ?_, pure_law_digits vs H Q E h⟩)⟩
  exact (pss_cons (ps_set (i := 2) sc_law_digits.nd rfl (Or.inl rfl) (pe_lst pa_nil))
      (pss_cons (ps_if (pt_cmpR op_ge (pv 0) (pe_op op_pow pe_int pe_int) (nomark _)) (pss_cons (ps_for PassesOwn.never rfl (pi_range1 rfl T.z_range (pa_cons (pv 1) pa_nil)) (pg_name (i := 3) sc_law_digits.nd rfl (Or.inl rfl))
      (pss_cons (ps_expr (pe_bm PySem.F.plainAttrs_list PySem.F.slot_list_append PySem.F.type_list_append mt_append (pv 2) (pa_cons (pe_op op_mod (pe_callTy cr_intI rfl T.z_int (by decide +kernel) (pa_cons (pv 0) pa_nil)) pe_int) pa_nil)))
      (pss_one (ps_set (i := 0) sc_law_digits.nd rfl (Or.inl rfl) (pe_op op_fdiv (pv 0) pe_int)))))
      (pss_one (ps_ret (pv 2)))) pss_nil)
      (pss_cons (ps_set (i := 4) sc_law_digits.nd rfl (Or.inl rfl) (pe_op op_mod (pe_callTy cr_intI rfl T.z_int (by decide +kernel) (pa_cons (pe_op op_add (pe_op op_mul (pv 0) pe_int) pe_int) pa_nil)) pe_int))
      (pss_cons (ps_for PassesOwn.never rfl (pi_range1 rfl T.z_range (pa_cons (pv 1) pa_nil)) (pg_name (i := 3) sc_law_digits.nd rfl (Or.inl rfl))
      (pss_cons (ps_set (i := 4) sc_law_digits.nd rfl (Or.inl rfl) (pe_op op_mod (pe_callTy cr_intI rfl T.z_int (by decide +kernel) (pa_cons (pe_op op_add (pe_op op_add (pe_op op_mul (pv 4) pe_int) (pe_op op_mul pe_int (pv 3))) pe_int) pa_nil)) pe_int))
      (pss_one (ps_expr (pe_bm PySem.F.plainAttrs_list PySem.F.slot_list_append PySem.F.type_list_append mt_append (pv 2) (pa_cons (pe_op op_mod (pe_callTy cr_intI rfl T.z_int (by decide +kernel) (pa_cons (pe_op op_fdiv (pv 4) pe_int) pa_nil)) pe_int) pa_nil))))))
      (pss_one (ps_ret (pv 2)))))))
theorem ok_law_edges {P : Program} {w : World} {K : PySem.W.Frag} {mg : Str → Option Value} {base : Heap} (T : Txt w K mg) (D_law_digits : O_law_digits P w K mg base) : O_law_edges P w K mg base := by
  obtain ⟨fd_law_digits, X_law_digits, G_law_digits⟩ := D_law_digits.ex
  have K_law_digits := X_law_digits.kp
  have B_law_digits := X_law_digits.bindsN (ps := ["cell", "count"]) fun _ _ _ _ _ _ us hl => match us, hl with | [_, _], _ => rfl
  have V_law_digits : Vals [] [] := .nil
  obtain ⟨fd, X⟩ := T.d_law_edges
  refine ⟨fd, X, X.ok sc_law_edges (fun vs H Q E h => len_law_edges h) (fun cdv A outer s H vs Q E hr h => ⟨t_law_edges K E, PSs.nox ?_, pure_law_edges vs H Q E h⟩)⟩
  exact (pss_cons (ps_set (i := 2) sc_law_edges.nd rfl (Or.inl rfl) (pe_call G_law_digits (hr.mono (by decide)) rfl T.g__law_digits K_law_digits B_law_digits V_law_digits pass0 (pa_cons (pv 0) (pa_cons (pe_op op_add pe_int (pe_op op_mul pe_int (pv 1))) pa_nil))))
      (pss_cons (ps_set (i := 3) sc_law_edges.nd rfl (Or.inl rfl) (pe_ix ix_list (pe_lst (pa_cons pe_int (pa_cons pe_int (pa_cons pe_int (pa_cons pe_int pa_nil))))) (pe_op op_mod (pe_callTy cr_intI rfl T.z_int (by decide +kernel) (pa_cons (pe_ix ix_list (pv 2) pe_int (fun _ _ => rfl)) pa_nil)) pe_int) (fun _ _ => rfl)))
      (pss_cons (ps_set (i := 4) sc_law_edges.nd rfl (Or.inl rfl) (pe_op op_mod (pe_op op_fdiv (pe_ix ix_list (pv 2) pe_int (fun _ _ => rfl)) pe_int) pe_int))
      (pss_cons (ps_set (i := 5) sc_law_edges.nd rfl (Or.inl rfl) (pe_lst pa_nil))
      (pss_cons (ps_for PassesOwn.never rfl (pi_range1 rfl T.z_range (pa_cons (pe_op op_mod (pe_callTy cr_intI rfl T.z_int (by decide +kernel) (pa_cons (pe_ix ix_list (pv 2) pe_int (fun _ _ => rfl)) pa_nil)) (pe_op op_add (pv 1) pe_int)) pa_nil)) (pg_name (i := 6) sc_law_edges.nd rfl (Or.inl rfl))
      (pss_cons (ps_set (i := 7) sc_law_edges.nd rfl (Or.inl rfl) (pe_op op_mod (pe_callTy cr_intI rfl T.z_int (by decide +kernel) (pa_cons (pe_ix ix_list (pv 2) (pe_op op_add pe_int (pe_op op_mul pe_int (pv 6))) (fun _ _ => rfl)) pa_nil)) (pv 3)))
      (pss_cons (ps_set (i := 8) sc_law_edges.nd rfl (Or.inl rfl) (pe_op op_mod (pe_callTy cr_intI rfl T.z_int (by decide +kernel) (pa_cons (pe_ix ix_list (pv 2) (pe_op op_add pe_int (pe_op op_mul pe_int (pv 6))) (fun _ _ => rfl)) pa_nil)) (pv 3)))
      (Evl.pss_cut (ps_if (PW.pt (pw_and (pt_cmpR op_eq (pv 4) pe_int (nomark _)) (pw_and1 (pt_cmpR op_gt (pe_op op_mod (pe_callTy cr_intI rfl T.z_int (by decide +kernel) (pa_cons (pe_ix ix_list (pv 2) (pe_op op_add pe_int (pe_op op_mul pe_int (pv 6))) (fun _ _ => rfl)) pa_nil)) pe_int) pe_int (nomark _))))) (pss_cons (ps_set (i := 7) sc_law_edges.nd rfl (Or.inl rfl) (pe_op op_mod (pe_callTy cr_intI rfl T.z_int (by decide +kernel) (pa_cons (pe_ix ix_list (pv 2) (pe_op op_add pe_int (pe_op op_mul pe_int (pv 6))) (fun _ _ => rfl)) pa_nil)) (pe_op op_add (pe_callB (cr_min2 rfl) rfl T.z_min (by decide +kernel) (pa_cons (pv 6) (pa_cons pe_int pa_nil))) pe_int)))
      (pss_one (ps_set (i := 8) sc_law_edges.nd rfl (Or.inl rfl) (pe_op op_add (pe_callB (cr_min2 rfl) rfl T.z_min (by decide +kernel) (pa_cons (pv 6) (pa_cons pe_int pa_nil))) pe_int)))) pss_nil)
      (pss_one (ps_if (pt_cmpR op_eq (pe_op op_mod (pe_op op_fdiv (pe_callTy cr_intI rfl T.z_int (by decide +kernel) (pa_cons (pe_ix ix_list (pv 2) (pe_op op_add pe_int (pe_op op_mul pe_int (pv 6))) (fun _ _ => rfl)) pa_nil)) pe_int) pe_int) pe_int (nomark _)) (pss_one (ps_expr (pe_bm PySem.F.plainAttrs_list PySem.F.slot_list_append PySem.F.type_list_append mt_append (pv 5) (pa_cons (pe_tup (pa_cons (pv 8) (pa_cons (pv 7) (pa_cons (pe_ix ix_list (pe_lst (pa_cons pe_str (pa_cons pe_str (pa_cons pe_str pa_nil)))) (pe_op op_mod (pe_callTy cr_intI rfl T.z_int (by decide +kernel) (pa_cons (pe_ix ix_list (pv 2) (pe_op op_add pe_int (pe_op op_mul pe_int (pv 6))) (fun _ _ => rfl)) pa_nil)) pe_int) (fun _ _ => rfl)) pa_nil)))) pa_nil)))) (pss_one (ps_expr (pe_bm PySem.F.plainAttrs_list PySem.F.slot_list_append PySem.F.type_list_append mt_append (pv 5) (pa_cons (pe_tup (pa_cons (pv 7) (pa_cons (pv 8) (pa_cons (pe_ix ix_list (pe_lst (pa_cons pe_str (pa_cons pe_str (pa_cons pe_str pa_nil)))) (pe_op op_mod (pe_callTy cr_intI rfl T.z_int (by decide +kernel) (pa_cons (pe_ix ix_list (pv 2) (pe_op op_add pe_int (pe_op op_mul pe_int (pv 6))) (fun _ _ => rfl)) pa_nil)) pe_int) (fun _ _ => rfl)) pa_nil)))) pa_nil))))))))))
      (pss_one (ps_ret (pv 5))))))))
theorem ok_law_cell {P : Program} {w : World} {K : PySem.W.Frag} {mg : Str → Option Value} {base : Heap} (T : Txt w K mg)  : O_law_cell P w K mg base := by
  obtain ⟨fd, X⟩ := T.d_law_cell
  refine ⟨fd, X, X.ok sc_law_cell (fun vs H Q E h => len_law_cell h) (fun cdv A outer s H vs Q E hr h => ⟨t_law_cell K E, PSs.nox ?_, pure_law_cell vs H Q E h⟩)⟩
  exact (pss_cons (ps_if (pt_cmpR op_lt (pv 1) (pe_callB cr_lenQ rfl T.z_len (by decide +kernel) (pa_cons (pv 0) pa_nil)) (nomark _)) (pss_one (ps_ret (pe_ix ix_list (pv 0) (pv 1) (fun _ _ => rfl)))) pss_nil)
      (pss_cons (ps_set (i := 2) sc_law_cell.nd rfl (Or.inl rfl) (pe_op op_add (pe_op op_mul pe_int (pv 1)) pe_int))
      (pss_cons (ps_for PassesOwn.never rfl (pi_list (pv 0)) (pg_name (i := 3) sc_law_cell.nd rfl (Or.inl rfl))
      (pss_one (ps_set (i := 2) sc_law_cell.nd rfl (Or.inl rfl) (pe_op op_mod (pe_callTy cr_intI rfl T.z_int (by decide +kernel) (pa_cons (pe_op op_add (pe_op op_mul (pv 2) pe_int) (pv 3)) pa_nil)) pe_int))))
      (pss_one (ps_ret (pv 2))))))
theorem ok_is_whole {P : Program} {w : World} {K : PySem.W.Frag} {mg : Str → Option Value} {base : Heap} (T : Txt w K mg)  : O_is_whole P w K mg base := by
  obtain ⟨fd, X⟩ := T.d_is_whole
  refine ⟨fd, X, X.ok sc_is_whole (fun vs H Q E h => len_is_whole h) (fun cdv A outer s H vs Q E hr h => ⟨t_is_whole K E, PSs.nox ?_, pure_is_whole vs H Q E h⟩)⟩
  exact (pss_one (ps_ret (pe_and (pe_cmpR op_isTyB (pe_callTy call_type1 rfl T.z_type (by decide +kernel) (pa_cons (pv 0) pa_nil)) (pe_bltn rfl T.z_int (by decide +kernel) rfl) (nomark _)) (pe_one (pe_chain op_le op_le (pv 1) (pv 0) (pv 2))))))
theorem ok_check_edge {P : Program} {w : World} {K : PySem.W.Frag} {mg : Str → Option Value} {base : Heap} (T : Txt w K mg) (D_is_whole : O_is_whole P w K mg base) : O_check_edge P w K mg base := by
  obtain ⟨fd_is_whole, X_is_whole, G_is_whole⟩ := D_is_whole.ex
  have K_is_whole := X_is_whole.kp
  have B_is_whole := X_is_whole.bindsN (ps := ["thing", "least", "most"]) fun _ _ _ _ _ _ us hl => match us, hl with | [_, _, _], _ => rfl
  have V_is_whole : Vals [] [] := .nil
  obtain ⟨fd, X⟩ := T.d_check_edge
  refine ⟨fd, X, X.ok sc_check_edge (fun vs H Q E h => len_check_edge h) (fun cdv A outer s H vs Q E hr h => ⟨t_check_edge K E, ?_, pure_check_edge T.FCOLOURS vs H Q E h⟩)⟩
  exact (pss_cons (ps_if (PW.pt (pw_or (pt_cmpR op_notTyB (pe_callTy call_type1 rfl T.z_type (by decide +kernel) (pa_cons (pv 0) pa_nil)) (pe_bltn rfl T.z_tuple (by decide +kernel) rfl) (nomark _)) (pw_or1 (pt_cmpR op_ne (pe_callB cr_lenQ rfl T.z_len (by decide +kernel) (pa_cons (pv 0) pa_nil)) pe_int (nomark _))))) (pss_one (ps_raise rfl (takes_of rfl rfl rfl rfl) (pmk_own PySem.F.excBase_ValueError T.x_BadValue.1 T.g_BadValue T.x_BadValue.2.1 (raises_own T.x_BadValue.2.2.1 T.x_BadValue.2.2.2) (by exact rfl)))) pss_nil)
      (pss_cons (ps_for (passes_of rfl) rfl (pi_tup (pe_slice sl_tupA (pv 0) po_none (po_some pe_int))) (pg_name (i := 1) sc_check_edge.nd rfl (Or.inl rfl))
      (pss_one (ps_if (pt_not (pt_val (pe_call G_is_whole (hr.mono (by decide)) rfl T.g_is_whole K_is_whole B_is_whole V_is_whole pass0 (pa_cons (pv 1) (pa_cons pe_int (pa_cons (C8.pe_gc rfl (cst_ok T.c_MOST_KNOT)) pa_nil)))))) (pss_one (ps_raise rfl (takes_of rfl rfl rfl rfl) (pmk_own PySem.F.excBase_ValueError T.x_BadValue.1 T.g_BadValue T.x_BadValue.2.1 (raises_own T.x_BadValue.2.2.1 T.x_BadValue.2.2.2) (by exact rfl)))) pss_nil)))
      (pss_one (ps_if (pt_not (PW.pt (pw_and (pt_cmpR op_isTyB (pe_callTy call_type1 rfl T.z_type (by decide +kernel) (pa_cons (pe_ix ix_tup (pv 0) pe_int (fun _ _ => rfl)) pa_nil)) (pe_bltn rfl T.z_str (by decide +kernel) rfl) (nomark _)) (pw_and1 (pt_cmpR op_in_seq (pe_ix ix_tup (pv 0) pe_int (fun _ _ => rfl)) (C8.pe_gc rfl ⟨_, T.g_COLOURS, rfl⟩) (by rfl)))))) (pss_one (ps_raise rfl (takes_of rfl rfl rfl rfl) (pmk_own PySem.F.excBase_ValueError T.x_BadValue.1 T.g_BadValue T.x_BadValue.2.1 (raises_own T.x_BadValue.2.2.1 T.x_BadValue.2.2.2) (by exact rfl)))) pss_nil))))
theorem ok_reached {P : Program} {w : World} {K : PySem.W.Frag} {mg : Str → Option Value} {base : Heap} (T : Txt w K mg)  : O_reached P w K mg base := by
  obtain ⟨fd, X⟩ := T.d_reached
  refine ⟨fd, X, X.ok sc_reached (fun vs H Q E h => len_reached h) (fun cdv A outer s H vs Q E hr h => ⟨t_reached K E, PSs.nox ?_, pure_reached vs H Q E h⟩)⟩
  exact (pss_cons (ps_setDc (i := 2) (own := [("knot", 3)]) (g := (gName 3)) (tt := tYes) rfl sc_reached.nd rfl rfl (swD_true rfl rfl rfl (by decide +kernel)) (pi_list (pv 1)) (blkOk_by (N := R_reached) (sc := defScope s_reached) (by decide +kernel)) (fun _ _ _ _ _ => (pg_name (i := 3) sc_reached.nd rfl (Or.inl rfl))) (fun _ _ _ _ _ => pts_nil) (fun _ _ _ _ _ => (pv 3)) (fun _ _ _ _ _ => pe_bl))
      (pss_cons (ps_set (i := 4) sc_reached.nd rfl (Or.inl rfl) pe_bl)
      (pss_cons (ps_while PassesOwn.never (pt_val (pv 4)) (pss_cons (ps_set (i := 4) sc_reached.nd rfl (Or.inl rfl) pe_bl)
      (pss_one (ps_for PassesOwn.never rfl (pi_list (pv 0)) (pg_tup rfl (pgs_cons (pg_name (i := 5) sc_reached.nd rfl (Or.inl rfl)) (pgs_cons (pg_name (i := 6) sc_reached.nd rfl (Or.inl rfl)) (pgs_cons (pg_name (i := 7) sc_reached.nd rfl (Or.inl rfl)) pgs_nil))))
      (pss_one (ps_if (pt_cmpR op_ne (pe_cmp (pc_din (hu_of hr) (pv 5) (pv 2)) rfl) (pe_cmp (pc_din (hu_of hr) (pv 6) (pv 2)) rfl) (nomark _)) (pss_cons (ps_asg2 pe_bl (pg_sub (pv 2) (pv 5) (set_dict (Nat.lt_of_le_of_lt (Nat.add_le_add_left (show 1 ≤ 64 by decide) _) hr.units))) (pg_sub (pv 2) (pv 6) (set_dict (Nat.lt_of_le_of_lt (Nat.add_le_add_left (show 1 ≤ 64 by decide) _) hr.units))))
      (pss_one (ps_set (i := 4) sc_reached.nd rfl (Or.inl rfl) pe_bl))) pss_nil))))))
      (pss_one (ps_ret (pv 2))))))
theorem ok_Hedge_d_init {P : Program} {w : World} {K : PySem.W.Frag} {mg : Str → Option Value} {base : Heap} (T : Txt w K mg) (D_check_edge : O_check_edge P w K mg base) (D_reached : O_reached P w K mg base) : O_Hedge_d_init P w K mg base := by
  obtain ⟨fd_check_edge, X_check_edge, G_check_edge⟩ := D_check_edge.ex
  have K_check_edge := X_check_edge.kp
  have B_check_edge := X_check_edge.bindsN (ps := ["edge"]) fun _ _ _ _ _ _ us hl => match us, hl with | [_], _ => rfl
  have V_check_edge : Vals [] [] := .nil
  obtain ⟨fd_reached, X_reached, G_reached⟩ := D_reached.ex
  have K_reached := X_reached.kp
  have B_reached := X_reached.bindsN (ps := ["edges", "knots"]) fun _ _ _ _ _ _ us hl => match us, hl with | [_, _], _ => rfl
  have V_reached : Vals [] [] := .nil
  obtain ⟨fd, X⟩ := T.d_Hedge_d_init
  refine ⟨fd, X, X.ok sc_Hedge_d_init (fun vs H Q E h => len_Hedge_d_init h) (fun cdv A outer s H vs Q E hr h => ⟨t_Hedge_d_init K E, ?_, pure_Hedge_d_init T.FHedge vs H Q E h⟩)⟩
  exact (pss_cons (ps_if (PW.pt (pw_or (pt_cmpR op_notTyB (pe_callTy call_type1 rfl T.z_type (by decide +kernel) (pa_cons (pv 1) pa_nil)) (pe_bltn rfl T.z_list (by decide +kernel) rfl) (nomark _)) (pw_or1 (pt_cmpR op_gt (pe_callB cr_lenQ rfl T.z_len (by decide +kernel) (pa_cons (pv 1) pa_nil)) (C8.pe_gc rfl (cst_ok T.c_MOST_EDGES)) (nomark _))))) (pss_one (ps_raise rfl (takes_of rfl rfl rfl rfl) (pmk_own PySem.F.excBase_ValueError T.x_BadValue.1 T.g_BadValue T.x_BadValue.2.1 (raises_own T.x_BadValue.2.2.1 T.x_BadValue.2.2.2) (by exact rfl)))) pss_nil)
      (pss_cons (ps_for (passes_of rfl) rfl (pi_list (pv 1)) (pg_name (i := 2) sc_Hedge_d_init.nd rfl (Or.inl rfl))
      (pss_one (ps_expr (pe_call G_check_edge (hr.mono (by decide)) rfl T.g__check_edge K_check_edge B_check_edge V_check_edge (passes_call (takes_of rfl rfl rfl rfl) fun _ _ _ _ z => z) (pa_cons (pv 2) pa_nil)))))
      (pss_cons (ps_set (i := 3) sc_Hedge_d_init.nd rfl (Or.inr rfl) (pe_call G_reached (hr.mono (by decide)) rfl T.g__reached K_reached B_reached V_reached pass0 (pa_cons (pv 1) (pa_cons (pe_lst (pa_cons (C8.pe_gc rfl (cst_ok T.c_GROUND)) pa_nil)) pa_nil))))
      (pss_one (ps_fld (pv 0) (pe_callTy cr_tupL rfl T.z_tuple (by decide +kernel) (pa_cons (pe_lc (own := [("edge", 2)]) (g := (gName 2)) (tt := (tB (tDIn (tOp (rIxT K) (tVar 2) (tC (.int 0))) (tVar 3)))) rfl sc_Hedge_d_init.nd (pi_list (pv 1)) (blkOk_by (N := R_Hedge_d_init) (sc := defScope s_Hedge_d_init) (by decide +kernel)) (fun _ _ _ _ _ => (pg_name (i := 2) sc_Hedge_d_init.nd rfl (Or.inl rfl))) (fun _ _ _ _ _ => (pts_one (pt_cmp (pc_din (hu_of hr) (pe_ix ix_tup (pv 2) pe_int (fun _ _ => rfl)) (pv 3))))) (fun _ _ _ _ _ => (pv 2))) pa_nil)) rfl)))))
theorem ok_law_hanging {P : Program} {w : World} {K : PySem.W.Frag} {mg : Str → Option Value} {base : Heap} (T : Txt w K mg)  : O_law_hanging P w K mg base := by
  obtain ⟨fd, X⟩ := T.d_law_hanging
  refine ⟨fd, X, X.ok sc_law_hanging (fun vs H Q E h => len_law_hanging h) (fun cdv A outer s H vs Q E hr h => ⟨t_law_hanging K E, PSs.nox ?_, pure_law_hanging vs H Q E h⟩)⟩
  exact (pss_cons (ps_set (i := 1) sc_law_hanging.nd rfl (Or.inr rfl) (pe_lst (pa_cons pe_int pa_nil)))
      (pss_cons (ps_for PassesOwn.never rfl (pi_range1 rfl T.z_range (pa_cons pe_int pa_nil)) (pg_name (i := 2) sc_law_hanging.nd rfl (Or.inl rfl))
      (pss_cons (ps_set (i := 3) sc_law_hanging.nd rfl (Or.inl rfl) (pe_callB cr_lenQ rfl T.z_len (by decide +kernel) (pa_cons (pv 1) pa_nil)))
      (pss_cons (ps_for PassesOwn.never rfl (pi_list (pv 0)) (pg_name (i := 4) sc_law_hanging.nd rfl (Or.inl rfl))
      (Evl.pss_cut (ps_if (PW.pt (pw_and (pt_cmpR op_in_seq (pe_ix ix_tup (pv 4) pe_int (fun _ _ => rfl)) (pv 1) (by rfl)) (pw_and1 (pt_cmpR op_notIn_seq (pe_ix ix_tup (pv 4) pe_int (fun _ _ => rfl)) (pv 1) (by rfl))))) (pss_one (ps_expr (pe_bm PySem.F.plainAttrs_list PySem.F.slot_list_append PySem.F.type_list_append mt_append (pv 1) (pa_cons (pe_ix ix_tup (pv 4) pe_int (fun _ _ => rfl)) pa_nil)))) pss_nil)
      (pss_one (ps_if (PW.pt (pw_and (pt_cmpR op_in_seq (pe_ix ix_tup (pv 4) pe_int (fun _ _ => rfl)) (pv 1) (by rfl)) (pw_and1 (pt_cmpR op_notIn_seq (pe_ix ix_tup (pv 4) pe_int (fun _ _ => rfl)) (pv 1) (by rfl))))) (pss_one (ps_expr (pe_bm PySem.F.plainAttrs_list PySem.F.slot_list_append PySem.F.type_list_append mt_append (pv 1) (pa_cons (pe_ix ix_tup (pv 4) pe_int (fun _ _ => rfl)) pa_nil)))) pss_nil))))
      (pss_one (ps_if (pt_cmpR op_eq (pe_callB cr_lenQ rfl T.z_len (by decide +kernel) (pa_cons (pv 1) pa_nil)) (pv 3) (nomark _)) (pss_one ps_break) pss_nil)))))
      (pss_one (ps_ret (pe_callTy cr_tupL rfl T.z_tuple (by decide +kernel) (pa_cons (pe_lc (own := [("edge", 4)]) (g := (gName 4)) (tt := (tTest (tOp (rIn K false) (tOp (rIxT K) (tVar 4) (tC (.int 0))) (tVar 1)))) rfl sc_law_hanging.nd (pi_list (pv 0)) (blkOk_by (N := R_law_hanging) (sc := defScope s_law_hanging) (by decide +kernel)) (fun _ _ _ _ _ => (pg_name (i := 4) sc_law_hanging.nd rfl (Or.inl rfl))) (fun _ _ _ _ _ => (pts_one (pt_cmpR op_in_seq (pe_ix ix_tup (pv 4) pe_int (fun _ _ => rfl)) (pv 1) (by rfl)))) (fun _ _ _ _ _ => (pv 4))) pa_nil))))))
theorem ok_law_hedge_parts {P : Program} {w : World} {K : PySem.W.Frag} {mg : Str → Option Value} {base : Heap} (T : Txt w K mg)  : O_law_hedge_parts P w K mg base := by
  obtain ⟨fd, X⟩ := T.d_law_hedge_parts
  refine ⟨fd, X, X.ok sc_law_hedge_parts (fun vs H Q E h => len_law_hedge_parts h) (fun cdv A outer s H vs Q E hr h => ⟨t_law_hedge_parts K E, PSs.nox ?_, pure_law_hedge_parts vs H Q E h⟩)⟩
  exact (pss_cons (ps_set (i := 1) sc_law_hedge_parts.nd rfl (Or.inl rfl) (pe_lst pa_nil))
      (pss_cons (ps_set (i := 2) sc_law_hedge_parts.nd rfl (Or.inl rfl) (pe_lst pa_nil))
      (pss_cons (ps_for PassesOwn.never rfl (pi_range1 rfl T.z_range (pa_cons (pe_callB cr_lenQ rfl T.z_len (by decide +kernel) (pa_cons (pv 0) pa_nil)) pa_nil)) (pg_name (i := 3) sc_law_hedge_parts.nd rfl (Or.inr rfl))
      (pss_one (ps_if (pt_cmpR op_notIn_seq (pv 3) (pv 2) (by rfl)) (pss_cons (ps_asg (pe_lc (own := [("knot", 5)]) (g := (gName 5)) (tt := (tTest (tOp rGtI (tVar 5) (tC (.int 0))))) rfl sc_law_hedge_parts.nd (pi_tup (pe_slice sl_tupA (pe_ix ix_tup (pv 0) (pv 3) (fun _ _ => rfl)) po_none (po_some pe_int))) (blkOk_by (N := R_law_hedge_parts) (sc := defScope s_law_hedge_parts) (by decide +kernel)) (fun _ _ _ _ _ => (pg_name (i := 5) sc_law_hedge_parts.nd rfl (Or.inl rfl))) (fun _ _ _ _ _ => (pts_one (pt_cmpR op_gt (pv 5) pe_int (nomark _)))) (fun _ _ _ _ _ => (pv 5))) (pg_name (i := 4) sc_law_hedge_parts.nd rfl (Or.inr rfl)))
      (pss_cons (ps_for PassesOwn.never rfl (pi_range1 rfl T.z_range (pa_cons pe_int pa_nil)) (pg_name (i := 6) sc_law_hedge_parts.nd rfl (Or.inl rfl))
      (pss_cons (ps_set (i := 7) sc_law_hedge_parts.nd rfl (Or.inl rfl) (pe_callB cr_lenQ rfl T.z_len (by decide +kernel) (pa_cons (pv 4) pa_nil)))
      (pss_cons (ps_for PassesOwn.never rfl (pi_tup (pv 0)) (pg_name (i := 8) sc_law_hedge_parts.nd rfl (Or.inl rfl))
      (pss_one (ps_if (PW.pt (pw_or (pt_cmpR op_in_seq (pe_ix ix_tup (pv 8) pe_int (fun _ _ => rfl)) (pv 4) (by rfl)) (pw_or1 (pt_cmpR op_in_seq (pe_ix ix_tup (pv 8) pe_int (fun _ _ => rfl)) (pv 4) (by rfl))))) (pss_one (ps_set (i := 4) sc_law_hedge_parts.nd rfl (Or.inr rfl) (pe_op op_cat (pv 4) (pe_lc (own := [("knot", 5)]) (g := (gName 5)) (tt := (tAnd (tTest (tOp rGtI (tVar 5) (tC (.int 0)))) (tTest (tOp (rIn K true) (tVar 5) (tVar 4))))) rfl sc_law_hedge_parts.nd (pi_tup (pe_slice sl_tupA (pv 8) po_none (po_some pe_int))) (blkOk_by (N := R_law_hedge_parts) (sc := defScope s_law_hedge_parts) (by decide +kernel)) (fun _ _ _ _ _ => (pg_name (i := 5) sc_law_hedge_parts.nd rfl (Or.inl rfl))) (fun _ _ _ _ _ => (pts_one (PW.pt (pw_and (pt_cmpR op_gt (pv 5) pe_int (nomark _)) (pw_and1 (pt_cmpR op_notIn_seq (pv 5) (pv 4) (by rfl))))))) (fun _ _ _ _ _ => (pv 5)))))) pss_nil)))
      (pss_one (ps_if (pt_cmpR op_eq (pe_callB cr_lenQ rfl T.z_len (by decide +kernel) (pa_cons (pv 4) pa_nil)) (pv 7) (nomark _)) (pss_one ps_break) pss_nil)))))
      (pss_cons (ps_setLc (i := 9) (own := [("k", 10)]) (g := (gName 10)) (tt := (tOr (tTest (tOp rEq (tVar 10) (tVar 3))) (tOr (tTest (tOp (rIn K false) (tOp (rIxT K) (tOp (rIxT K) (tVar 0) (tVar 10)) (tC (.int 0))) (tVar 4))) (tTest (tOp (rIn K false) (tOp (rIxT K) (tOp (rIxT K) (tVar 0) (tVar 10)) (tC (.int 1))) (tVar 4)))))) rfl sc_law_hedge_parts.nd rfl rfl (sw_true rfl rfl rfl (by decide +kernel)) (pi_range1 rfl T.z_range (pa_cons (pe_callB cr_lenQ rfl T.z_len (by decide +kernel) (pa_cons (pv 0) pa_nil)) pa_nil)) (blkOk_by (N := R_law_hedge_parts) (sc := defScope s_law_hedge_parts) (by decide +kernel)) (fun _ _ _ _ _ => (pg_name (i := 10) sc_law_hedge_parts.nd rfl (Or.inl rfl))) (fun _ _ _ _ _ => (pts_one (PW.pt (pw_or (pt_cmpR op_eq (pv 10) (pv 3) (nomark _)) (pw_or (pt_cmpR op_in_seq (pe_ix ix_tup (pe_ix ix_tup (pv 0) (pv 10) (fun _ _ => rfl)) pe_int (fun _ _ => rfl)) (pv 4) (by rfl)) (pw_or1 (pt_cmpR op_in_seq (pe_ix ix_tup (pe_ix ix_tup (pv 0) (pv 10) (fun _ _ => rfl)) pe_int (fun _ _ => rfl)) (pv 4) (by rfl)))))))) (fun _ _ _ _ _ => (pv 10)))
      (pss_cons (ps_expr (pe_bm PySem.F.plainAttrs_list PySem.F.slot_list_append PySem.F.type_list_append mt_append (pv 1) (pa_cons (pe_tup (pa_cons pe_str (pa_cons (pe_callTy cr_tupL rfl T.z_tuple (by decide +kernel) (pa_cons (pe_lc (own := [("k", 10)]) (g := (gName 10)) (tt := tYes) rfl sc_law_hedge_parts.nd (pi_list (pv 9)) (blkOk_by (N := R_law_hedge_parts) (sc := defScope s_law_hedge_parts) (by decide +kernel)) (fun _ _ _ _ _ => (pg_name (i := 10) sc_law_hedge_parts.nd rfl (Or.inl rfl))) (fun _ _ _ _ _ => pts_nil) (fun _ _ _ _ _ => (pe_ix ix_tup (pv 0) (pv 10) (fun _ _ => rfl)))) pa_nil)) pa_nil))) pa_nil)))
      (pss_one (ps_set (i := 2) sc_law_hedge_parts.nd rfl (Or.inl rfl) (pe_op op_cat (pv 2) (pv 9)))))))) pss_nil)))
      (pss_one (ps_ret (pv 1))))))
theorem ok_law_same {P : Program} {w : World} {K : PySem.W.Frag} {mg : Str → Option Value} {base : Heap} (T : Txt w K mg)  : O_law_same P w K mg base := by
  obtain ⟨fd, X⟩ := T.d_law_same
  have all : ∀ n : Nat, FnOk P w K mg base CX0 (n + 1) (ad_law_same K) fd ["told", "due"] (sp_law_same K n) := by
    intro n
    induction n with
    | zero => exact X.ok sc_law_same (fun vs H Q E h => len_law_same h) (fun cdv A outer s H vs Q E hr h => absurd h no_law_same)
    | succ n G_law_same =>
      have K_law_same := X.kp
      have V_law_same : Vals [] [] := .nil
      have B_law_same := X.bindsN (ps := ["told", "due"]) fun _ _ _ _ _ _ us hl => match us, hl with | [_, _], _ => rfl
      refine X.ok (k := (n + 1) + 0) sc_law_same (fun vs H Q E h => len_law_same h) (fun cdv A outer s H vs Q E hr h => ⟨t_law_same K n E, PSs.nox ?_, pure_law_same n vs H Q E h⟩)
      exact (pss_cons (ps_if (pt_val (pe_callB call_isi rfl T.z_isinstance (by decide +kernel) (pa_cons (pv 1) (pa_cons (pe_bltn rfl T.z_tuple (by decide +kernel) rfl) pa_nil)))) (pss_cons (ps_if (PW.pt (pw_or (pt_not (pt_val (pe_callB call_isi rfl T.z_isinstance (by decide +kernel) (pa_cons (pv 0) (pa_cons (pe_bltn rfl T.z_tuple (by decide +kernel) rfl) pa_nil))))) (pw_or1 (pt_cmpR op_ne (pe_callB cr_lenQ rfl T.z_len (by decide +kernel) (pa_cons (pv 0) pa_nil)) (pe_callB cr_lenQ rfl T.z_len (by decide +kernel) (pa_cons (pv 1) pa_nil)) (nomark _))))) (pss_one (ps_ret pe_bl)) pss_nil)
      (pss_cons (ps_for PassesOwn.never rfl (pi_range1 rfl T.z_range (pa_cons (pe_callB cr_lenQ rfl T.z_len (by decide +kernel) (pa_cons (pv 1) pa_nil)) pa_nil)) (pg_name (i := 2) sc_law_same.nd rfl (Or.inl rfl))
      (pss_one (ps_if (pt_not (pt_val (pe_call G_law_same (hr.mono (by omega)) rfl T.g__law_same K_law_same B_law_same V_law_same pass0 (pa_cons (pe_ix ix_tup (pv 0) (pv 2) (fun _ _ => rfl)) (pa_cons (pe_ix ix_tup (pv 1) (pv 2) (fun _ _ => rfl)) pa_nil))))) (pss_one (ps_ret pe_bl)) pss_nil)))
      (pss_one (ps_ret pe_bl)))) pss_nil)
      (pss_cons (ps_if (pt_val (pe_callB call_isi rfl T.z_isinstance (by decide +kernel) (pa_cons (pv 1) (pa_cons (pe_bltn rfl T.z_str (by decide +kernel) rfl) pa_nil)))) (pss_one (ps_ret (pe_and (pe_callB call_isi rfl T.z_isinstance (by decide +kernel) (pa_cons (pv 0) (pa_cons (pe_bltn rfl T.z_str (by decide +kernel) rfl) pa_nil))) (pe_one (pe_cmpR (op_eqD hr.units) (pv 0) (pv 1) (nomark _)))))) pss_nil)
      (pss_one (ps_ret (pe_and (pe_callB call_isi rfl T.z_isinstance (by decide +kernel) (pa_cons (pv 0) (pa_cons (pe_bltn rfl T.z_int (by decide +kernel) rfl) pa_nil))) (pe_and (pe_not (pe_callB call_isi rfl T.z_isinstance (by decide +kernel) (pa_cons (pv 0) (pa_cons (pe_bltn rfl T.z_bool (by decide +kernel) rfl) pa_nil)))) (pe_one (pe_cmpR (op_eqD hr.units) (pv 0) (pv 1) (nomark _)))))))))
  exact ⟨fd, X, all 5⟩
theorem ok_Hedge_m_value {P : Program} {w : World} {K : PySem.W.Frag} {mg : Str → Option Value} {base : Heap} (T : Txt w K mg)  : O_Hedge_m_value P w K mg base := by
  obtain ⟨fd, X⟩ := T.d_Hedge_m_value
  refine ⟨fd, X, X.ok sc_Hedge_m_value (fun vs H Q E h => len_Hedge_m_value h) (fun cdv A outer s H vs Q E hr h => ⟨t_Hedge_m_value K E, PSs.nox ?_, pure_Hedge_m_value T.FHedge vs H Q E h⟩)⟩
  exact (pss_one (ps_ret (pe_tup (pa_cons pe_str (pa_cons (pe_fld (pv 0) rfl) pa_nil)))))
theorem ok_law_told {P : Program} {w : World} {K : PySem.W.Frag} {mg : Str → Option Value} {base : Heap} (T : Txt w K mg) (D_law_same : O_law_same P w K mg base) (D_Hedge_m_value : O_Hedge_m_value P w K mg base) : O_law_told P w K mg base := by
  obtain ⟨fd_law_same, X_law_same, G_law_same⟩ := D_law_same.ex
  have K_law_same := X_law_same.kp
  have B_law_same := X_law_same.bindsN (ps := ["told", "due"]) fun _ _ _ _ _ _ us hl => match us, hl with | [_, _], _ => rfl
  have V_law_same : Vals [] [] := .nil
  obtain ⟨fd_Hedge_m_value, X_Hedge_m_value, G_Hedge_m_value⟩ := D_Hedge_m_value.ex
  have K_Hedge_m_value := X_Hedge_m_value.kp
  have B_Hedge_m_value := X_Hedge_m_value.bindsN (ps := ["self"]) fun _ _ _ _ _ _ us hl => match us, hl with | [_], _ => rfl
  have V_Hedge_m_value : Vals [] [] := .nil
  obtain ⟨fd, X⟩ := T.d_law_told
  refine ⟨fd, X, X.ok sc_law_told (fun vs H Q E h => len_law_told h) (fun cdv A outer s H vs Q E hr h => ⟨t_law_told K E, PSs.nox ?_, pure_law_told vs H Q E h⟩)⟩
  exact (pss_cons (ps_if (PW.pt (pw_or (pt_not (pt_val (pe_callB call_isi rfl T.z_isinstance (by decide +kernel) (pa_cons (pv 0) (pa_cons (pe_bltn rfl T.z_list (by decide +kernel) rfl) pa_nil))))) (pw_or1 (pt_cmpR op_ne (pe_callB cr_lenQ rfl T.z_len (by decide +kernel) (pa_cons (pv 0) pa_nil)) (pe_callB cr_lenQ rfl T.z_len (by decide +kernel) (pa_cons (pv 1) pa_nil)) (nomark _))))) (pss_one (ps_ret pe_bl)) pss_nil)
      (pss_cons (ps_for PassesOwn.never rfl (pi_range1 rfl T.z_range (pa_cons (pe_callB cr_lenQ rfl T.z_len (by decide +kernel) (pa_cons (pv 1) pa_nil)) pa_nil)) (pg_name (i := 2) sc_law_told.nd rfl (Or.inl rfl))
      (pss_one (ps_if (PW.pt (pw_or (pt_not (pt_val (pe_callB (cr_isC T.ic_Hedge) rfl T.z_isinstance (by decide +kernel) (pa_cons (pe_ix ix_list (pv 0) (pv 2) (fun _ _ => rfl)) (pa_cons (C8.pe_gc rfl ⟨_, T.g_Hedge, rfl⟩) pa_nil))))) (pw_or1 (pt_not (pt_val (pe_call G_law_same (hr.mono (by decide)) rfl T.g__law_same K_law_same B_law_same V_law_same pass0 (pa_cons (pe_meth0 (pe_ix ix_list (pv 0) (pv 2) (fun _ _ => rfl)) T.cl_Hedge T.mt_Hedge_value G_Hedge_m_value (hr.mono (by decide)) B_Hedge_m_value .nil pass0) (pa_cons (pe_ix ix_list (pv 1) (pv 2) (fun _ _ => rfl)) pa_nil)))))))) (pss_one (ps_ret pe_bl)) pss_nil)))
      (pss_cons (ps_expr (pe_bm0 PySem.F.plainAttrs_list PySem.F.slot_list_reverse PySem.F.type_list_reverse mt_reverse (pv 0)))
      (pss_cons (ps_expr (pe_bm PySem.F.plainAttrs_list PySem.F.slot_list_append PySem.F.type_list_append mt_append (pv 0) (pa_cons pe_non pa_nil)))
      (pss_one (ps_ret pe_bl))))))
theorem ok_Hedge_p_together {P : Program} {w : World} {K : PySem.W.Frag} {mg : Str → Option Value} {base : Heap} (T : Txt w K mg) (D_reached : O_reached P w K mg base) : O_Hedge_p_together P w K mg base := by
  obtain ⟨fd_reached, X_reached, G_reached⟩ := D_reached.ex
  have K_reached := X_reached.kp
  have B_reached := X_reached.bindsN (ps := ["edges", "knots"]) fun _ _ _ _ _ _ us hl => match us, hl with | [_, _], _ => rfl
  have V_reached : Vals [] [] := .nil
  obtain ⟨fd, X⟩ := T.d_Hedge_p_together
  refine ⟨fd, X, X.ok sc_Hedge_p_together (fun vs H Q E h => len_Hedge_p_together h) (fun cdv A outer s H vs Q E hr h => ⟨t_Hedge_p_together K E, PSs.nox ?_, pure_Hedge_p_together T.FHedge vs H Q E h⟩)⟩
  exact (pss_cons (ps_setLc (i := 2) (own := [("knot", 3)]) (g := (gName 3)) (tt := (tTest (tOp rNe (tVar 3) (tC (.int 0))))) rfl sc_Hedge_p_together.nd rfl rfl (sw_true rfl rfl rfl (by decide +kernel)) (pi_tup (pe_slice sl_tupA (pe_ix ix_tup (pe_fld (pv 0) rfl) (pv 1) (fun _ _ => rfl)) po_none (po_some pe_int))) (blkOk_by (N := R_Hedge_p_together) (sc := defScope s_Hedge_p_together) (by decide +kernel)) (fun _ _ _ _ _ => (pg_name (i := 3) sc_Hedge_p_together.nd rfl (Or.inl rfl))) (fun _ _ _ _ _ => (pts_one (pt_cmpR op_ne (pv 3) (C8.pe_gc rfl (cst_ok T.c_GROUND)) (nomark _)))) (fun _ _ _ _ _ => (pv 3)))
      (pss_cons (ps_set (i := 4) sc_Hedge_p_together.nd rfl (Or.inr rfl) (pe_call G_reached (hr.mono (by decide)) rfl T.g__reached K_reached B_reached V_reached pass0 (pa_cons (pe_lc (own := [("edge", 5)]) (g := (gName 5)) (tt := (tTest (tOp (rIn K true) (tC (.int 0)) (tSl (rSlA K) (tVar 5) tNoPart (tPart (tC (.int 2))))))) rfl sc_Hedge_p_together.nd (pi_tup (pe_fld (pv 0) rfl)) (blkOk_by (N := R_Hedge_p_together) (sc := defScope s_Hedge_p_together) (by decide +kernel)) (fun _ _ _ _ _ => (pg_name (i := 5) sc_Hedge_p_together.nd rfl (Or.inl rfl))) (fun _ _ _ _ _ => (pts_one (pt_cmpR op_notIn_seq (C8.pe_gc rfl (cst_ok T.c_GROUND)) (pe_slice sl_tupA (pv 5) po_none (po_some pe_int)) (by rfl)))) (fun _ _ _ _ _ => (pv 5))) (pa_cons (pv 2) pa_nil))))
      (pss_one (ps_ret (pe_lc (own := [("place", 6), ("one", 7), ("other", 8), ("_", 9)]) (g := (gTup K 2 (gCons (gName 6) (gCons (gTup K 3 (gCons (gName 7) (gCons (gName 8) (gCons (gName 9) gNil)))) gNil)))) (tt := (tOr (tTest (tOp rEq (tVar 6) (tVar 1))) (tOr (tB (tDIn (tVar 7) (tVar 4))) (tB (tDIn (tVar 8) (tVar 4)))))) rfl sc_Hedge_p_together.nd (pi_enumT rfl T.z_enumerate (pa_cons (pe_fld (pv 0) rfl) pa_nil)) (blkOk_by (N := R_Hedge_p_together) (sc := defScope s_Hedge_p_together) (by decide +kernel)) (fun _ _ _ _ _ => (pg_tup rfl (pgs_cons (pg_name (i := 6) sc_Hedge_p_together.nd rfl (Or.inl rfl)) (pgs_cons (pg_tup rfl (pgs_cons (pg_name (i := 7) sc_Hedge_p_together.nd rfl (Or.inl rfl)) (pgs_cons (pg_name (i := 8) sc_Hedge_p_together.nd rfl (Or.inl rfl)) (pgs_cons (pg_name (i := 9) sc_Hedge_p_together.nd rfl (Or.inl rfl)) pgs_nil)))) pgs_nil)))) (fun _ _ _ _ _ => (pts_one (PW.pt (pw_or (pt_cmpR op_eq (pv 6) (pv 1) (nomark _)) (pw_or (pt_cmp (pc_din (hu_of hr) (pv 7) (pv 4))) (pw_or1 (pt_cmp (pc_din (hu_of hr) (pv 8) (pv 4))))))))) (fun _ _ _ _ _ => (pv 6)))))))
theorem ok_Hedge_m_parts {P : Program} {w : World} {K : PySem.W.Frag} {mg : Str → Option Value} {base : Heap} (T : Txt w K mg) (D_Hedge_p_together : O_Hedge_p_together P w K mg base) (D_Hedge_d_init : O_Hedge_d_init P w K mg base) : O_Hedge_m_parts P w K mg base := by
  obtain ⟨fd_Hedge_p_together, X_Hedge_p_together, G_Hedge_p_together⟩ := D_Hedge_p_together.ex
  have K_Hedge_p_together := X_Hedge_p_together.kp
  have B_Hedge_p_together := X_Hedge_p_together.bindsN (ps := ["self", "at"]) fun _ _ _ _ _ _ us hl => match us, hl with | [_, _], _ => rfl
  have V_Hedge_p_together : Vals [] [] := .nil
  obtain ⟨fd_Hedge_d_init, X_Hedge_d_init, G_Hedge_d_init⟩ := D_Hedge_d_init.ex
  have K_Hedge_d_init := X_Hedge_d_init.kp
  have B_Hedge_d_init := X_Hedge_d_init.bindsN (ps := ["self", "edges"]) fun _ _ _ _ _ _ us hl => match us, hl with | [_, _], _ => rfl
  have V_Hedge_d_init : Vals [] [] := .nil
  obtain ⟨fd, X⟩ := T.d_Hedge_m_parts
  refine ⟨fd, X, X.ok sc_Hedge_m_parts (fun vs H Q E h => len_Hedge_m_parts h) (fun cdv A outer s H vs Q E hr h => ⟨t_Hedge_m_parts K E, PSs.nox ?_, pure_Hedge_m_parts T.FHedge vs H Q E h⟩)⟩
  exact (pss_cons (ps_set (i := 1) sc_Hedge_m_parts.nd rfl (Or.inl rfl) (pe_lst pa_nil))
      (pss_cons (ps_set (i := 2) sc_Hedge_m_parts.nd rfl (Or.inl rfl) pe_dnewK)
      (pss_cons (ps_for PassesOwn.never rfl (pi_range1 rfl T.z_range (pa_cons (pe_callB cr_lenQ rfl T.z_len (by decide +kernel) (pa_cons (pe_fld (pv 0) rfl) pa_nil)) pa_nil)) (pg_name (i := 3) sc_Hedge_m_parts.nd rfl (Or.inl rfl))
      (pss_one (ps_if (pt_cmp (pc_dnotin (hu_of hr) (pv 3) (pv 2))) (pss_cons (ps_set (i := 4) sc_Hedge_m_parts.nd rfl (Or.inl rfl) (pe_meth (pv 0) T.cl_Hedge T.mt_Hedge__together G_Hedge_p_together (hr.mono (by decide)) B_Hedge_p_together .nil pass0 (pa_cons (pv 3) pa_nil)))
      (pss_cons (ps_for PassesOwn.never rfl (pi_list (pv 4)) (pg_name (i := 5) sc_Hedge_m_parts.nd rfl (Or.inl rfl))
      (pss_one (ps_dput (hu_of hr) (pv 2) (pv 5) pe_bl rfl)))
      (pss_one (ps_expr (pe_bm PySem.F.plainAttrs_list PySem.F.slot_list_append PySem.F.type_list_append mt_append (pv 1) (pa_cons (pe_make T.mk_Hedge G_Hedge_d_init (hr.mono (by decide)) rfl T.g_Hedge B_Hedge_d_init V_Hedge_d_init passL (pa_cons (pe_lc (own := [("place", 5)]) (g := (gName 5)) (tt := tYes) rfl sc_Hedge_m_parts.nd (pi_list (pv 4)) (blkOk_by (N := R_Hedge_m_parts) (sc := defScope s_Hedge_m_parts) (by decide +kernel)) (fun _ _ _ _ _ => (pg_name (i := 5) sc_Hedge_m_parts.nd rfl (Or.inl rfl))) (fun _ _ _ _ _ => pts_nil) (fun _ _ _ _ _ => (pe_ix ix_tup (pe_fld (pv 0) rfl) (pv 5) (fun _ _ => rfl)))) pa_nil)) pa_nil)))))) pss_nil)))
      (pss_one (ps_ret (pv 1))))))
theorem ok_Hedge_m_moves {P : Program} {w : World} {K : PySem.W.Frag} {mg : Str → Option Value} {base : Heap} (T : Txt w K mg) (D_Hedge_d_init : O_Hedge_d_init P w K mg base) (D_Hedge_m_value : O_Hedge_m_value P w K mg base) : O_Hedge_m_moves P w K mg base := by
  obtain ⟨fd_Hedge_d_init, X_Hedge_d_init, G_Hedge_d_init⟩ := D_Hedge_d_init.ex
  have K_Hedge_d_init := X_Hedge_d_init.kp
  have B_Hedge_d_init := X_Hedge_d_init.bindsN (ps := ["self", "edges"]) fun _ _ _ _ _ _ us hl => match us, hl with | [_, _], _ => rfl
  have V_Hedge_d_init : Vals [] [] := .nil
  obtain ⟨fd_Hedge_m_value, X_Hedge_m_value, G_Hedge_m_value⟩ := D_Hedge_m_value.ex
  have K_Hedge_m_value := X_Hedge_m_value.kp
  have B_Hedge_m_value := X_Hedge_m_value.bindsN (ps := ["self"]) fun _ _ _ _ _ _ us hl => match us, hl with | [_], _ => rfl
  have V_Hedge_m_value : Vals [] [] := .nil
  obtain ⟨fd, X⟩ := T.d_Hedge_m_moves
  refine ⟨fd, X, X.ok sc_Hedge_m_moves (fun vs H Q E h => len_Hedge_m_moves h) (fun cdv A outer s H vs Q E hr h => ⟨t_Hedge_m_moves P w K E, PSs.nox ?_, pure_Hedge_m_moves T.FHedge T.FCUTS vs H Q E h⟩)⟩
  exact (pss_cons (ps_set (i := 2) sc_Hedge_m_moves.nd rfl (Or.inl rfl) pe_nnew)
      (pss_cons (ps_for PassesOwn.never rfl (pi_enumT rfl T.z_enumerate (pa_cons (pe_fld (pv 0) rfl) pa_nil)) (pg_tup rfl (pgs_cons (pg_name (i := 3) sc_Hedge_m_moves.nd rfl (Or.inl rfl)) (pgs_cons (pg_name (i := 4) sc_Hedge_m_moves.nd rfl (Or.inl rfl)) pgs_nil)))
      (pss_one (ps_if (pt_cmpR op_in_seq (pe_ix ix_tup (pv 4) pe_int (fun _ _ => rfl)) (pe_ix (ix_kd T.kd_CUTS) (C8.pe_gc rfl ⟨_, T.g_CUTS, rfl⟩) (pv 1) (fun _ _ => rfl)) (by rfl)) (pss_cons (ps_set (i := 5) sc_Hedge_m_moves.nd rfl (Or.inl rfl) (pe_make T.mk_Hedge G_Hedge_d_init (hr.mono (by decide)) rfl T.g_Hedge B_Hedge_d_init V_Hedge_d_init passL (pa_cons (pe_lst (StX.pa_star (pe_slice sl_tupA (pe_fld (pv 0) rfl) po_none (po_some (pv 3))) (StX.pa_star (pe_slice sl_tupA (pe_fld (pv 0) rfl) (po_some (pe_op op_add (pv 3) pe_int)) po_none) pa_nil))) pa_nil)))
      (pss_one (ps_expr (pe_nsetd (hu9 hr) (pv 2) (pa_cons (pe_meth0 (pv 5) T.cl_Hedge T.mt_Hedge_value G_Hedge_m_value (hr.mono (by decide)) B_Hedge_m_value .nil pass0) (pa_cons (pv 5) pa_nil)))))) pss_nil)))
      (pss_one (ps_ret (pe_callTy (cr_listVw hr.hd) rfl T.z_list (by decide +kernel) (pa_cons (pe_nvals (pv 2)) pa_nil))))))
theorem ok_law_others_stay {P : Program} {w : World} {K : PySem.W.Frag} {mg : Str → Option Value} {base : Heap} (T : Txt w K mg) (D_Hedge_m_moves : O_Hedge_m_moves P w K mg base) (D_Hedge_m_parts : O_Hedge_m_parts P w K mg base) (D_Hedge_m_value : O_Hedge_m_value P w K mg base) : O_law_others_stay P w K mg base := by
  obtain ⟨fd_Hedge_m_moves, X_Hedge_m_moves, G_Hedge_m_moves⟩ := D_Hedge_m_moves.ex
  have K_Hedge_m_moves := X_Hedge_m_moves.kp
  have B_Hedge_m_moves := X_Hedge_m_moves.bindsN (ps := ["self", "side"]) fun _ _ _ _ _ _ us hl => match us, hl with | [_, _], _ => rfl
  have V_Hedge_m_moves : Vals [] [] := .nil
  obtain ⟨fd_Hedge_m_parts, X_Hedge_m_parts, G_Hedge_m_parts⟩ := D_Hedge_m_parts.ex
  have K_Hedge_m_parts := X_Hedge_m_parts.kp
  have B_Hedge_m_parts := X_Hedge_m_parts.bindsN (ps := ["self"]) fun _ _ _ _ _ _ us hl => match us, hl with | [_], _ => rfl
  have V_Hedge_m_parts : Vals [] [] := .nil
  obtain ⟨fd_Hedge_m_value, X_Hedge_m_value, G_Hedge_m_value⟩ := D_Hedge_m_value.ex
  have K_Hedge_m_value := X_Hedge_m_value.kp
  have B_Hedge_m_value := X_Hedge_m_value.bindsN (ps := ["self"]) fun _ _ _ _ _ _ us hl => match us, hl with | [_], _ => rfl
  have V_Hedge_m_value : Vals [] [] := .nil
  obtain ⟨fd, X⟩ := T.d_law_others_stay
  refine ⟨fd, X, X.ok sc_law_others_stay (fun vs H Q E h => len_law_others_stay h) (fun cdv A outer s H vs Q E hr h => ⟨t_law_others_stay K E, PSs.nox ?_, pure_law_others_stay vs H Q E h⟩)⟩
  exact (pss_cons (ps_for PassesOwn.never rfl (pi_list (pe_lst (pa_cons pe_str (pa_cons pe_str pa_nil)))) (pg_name (i := 2) sc_law_others_stay.nd rfl (Or.inl rfl))
      (pss_one (ps_for PassesOwn.never rfl (pi_list (pe_slice sl_list (pe_meth (pv 0) T.cl_Hedge T.mt_Hedge_moves G_Hedge_m_moves (hr.mono (by decide)) B_Hedge_m_moves .nil pass0 (pa_cons (pv 2) pa_nil)) po_none (po_some pe_int))) (pg_name (i := 3) sc_law_others_stay.nd rfl (Or.inl rfl))
      (pss_cons (ps_asg (pe_lc (own := [("part", 5)]) (g := (gName 5)) (tt := tYes) rfl sc_law_others_stay.nd (pi_list (pe_meth0 (pv 3) T.cl_Hedge T.mt_Hedge_parts G_Hedge_m_parts (hr.mono (by decide)) B_Hedge_m_parts .nil pass0)) (blkOk_by (N := R_law_others_stay) (sc := defScope s_law_others_stay) (by decide +kernel)) (fun _ _ _ _ _ => (pg_name (i := 5) sc_law_others_stay.nd rfl (Or.inl rfl))) (fun _ _ _ _ _ => pts_nil) (fun _ _ _ _ _ => (pe_meth0 (pv 5) T.cl_Hedge T.mt_Hedge_value G_Hedge_m_value (hr.mono (by decide)) B_Hedge_m_value .nil pass0))) (pg_name (i := 4) sc_law_others_stay.nd rfl (Or.inr rfl)))
      (pss_one (ps_if (pt_cmpR op_gt (pe_callB cr_lenQ rfl T.z_len (by decide +kernel) (pa_cons (pe_lc (own := [("due", 6)]) (g := (gName 6)) (tt := (tTest (tOp (rNotInD K) (tVar 6) (tVar 4)))) rfl sc_law_others_stay.nd (pi_list (pv 1)) (blkOk_by (N := R_law_others_stay) (sc := defScope s_law_others_stay) (by decide +kernel)) (fun _ _ _ _ _ => (pg_name (i := 6) sc_law_others_stay.nd rfl (Or.inl rfl))) (fun _ _ _ _ _ => (pts_one (pt_cmpR (op_notInD (Nat.lt_of_le_of_lt (Nat.add_le_add (Nat.le_add_right _ _) (show 65 ≤ 200 by decide)) hr.un)) (pv 6) (pv 4) (by rfl)))) (fun _ _ _ _ _ => (pv 6))) pa_nil)) pe_int (nomark _)) (pss_one (ps_ret pe_bl)) pss_nil))))))
      (pss_one (ps_ret pe_bl)))
theorem ok_law {P : Program} {w : World} {K : PySem.W.Frag} {mg : Str → Option Value} {base : Heap} (T : Txt w K mg) (D_law_edges : O_law_edges P w K mg base) (D_law_cell : O_law_cell P w K mg base) (D_Hedge_d_init : O_Hedge_d_init P w K mg base) (D_law_hanging : O_law_hanging P w K mg base) (D_law_hedge_parts : O_law_hedge_parts P w K mg base) (D_law_told : O_law_told P w K mg base) (D_Hedge_m_parts : O_Hedge_m_parts P w K mg base) (D_Hedge_m_value : O_Hedge_m_value P w K mg base) (D_law_others_stay : O_law_others_stay P w K mg base) (D_law_same : O_law_same P w K mg base) : O_law P w K mg base := by
  obtain ⟨fd_law_edges, X_law_edges, G_law_edges⟩ := D_law_edges.ex
  have K_law_edges := X_law_edges.kp
  have B_law_edges := X_law_edges.bindsN (ps := ["cell", "most"]) fun _ _ _ _ _ _ us hl => match us, hl with | [_, _], _ => rfl
  have V_law_edges : Vals [] [] := .nil
  obtain ⟨fd_law_cell, X_law_cell, G_law_cell⟩ := D_law_cell.ex
  have K_law_cell := X_law_cell.kp
  have B_law_cell := X_law_cell.bindsN (ps := ["script", "k"]) fun _ _ _ _ _ _ us hl => match us, hl with | [_, _], _ => rfl
  have V_law_cell : Vals [] [] := .nil
  obtain ⟨fd_Hedge_d_init, X_Hedge_d_init, G_Hedge_d_init⟩ := D_Hedge_d_init.ex
  have K_Hedge_d_init := X_Hedge_d_init.kp
  have B_Hedge_d_init := X_Hedge_d_init.bindsN (ps := ["self", "edges"]) fun _ _ _ _ _ _ us hl => match us, hl with | [_, _], _ => rfl
  have V_Hedge_d_init : Vals [] [] := .nil
  obtain ⟨fd_law_hanging, X_law_hanging, G_law_hanging⟩ := D_law_hanging.ex
  have K_law_hanging := X_law_hanging.kp
  have B_law_hanging := X_law_hanging.bindsN (ps := ["edges"]) fun _ _ _ _ _ _ us hl => match us, hl with | [_], _ => rfl
  have V_law_hanging : Vals [] [] := .nil
  obtain ⟨fd_law_hedge_parts, X_law_hedge_parts, G_law_hedge_parts⟩ := D_law_hedge_parts.ex
  have K_law_hedge_parts := X_law_hedge_parts.kp
  have B_law_hedge_parts := X_law_hedge_parts.bindsN (ps := ["edges"]) fun _ _ _ _ _ _ us hl => match us, hl with | [_], _ => rfl
  have V_law_hedge_parts : Vals [] [] := .nil
  obtain ⟨fd_law_told, X_law_told, G_law_told⟩ := D_law_told.ex
  have K_law_told := X_law_told.kp
  have B_law_told := X_law_told.bindsN (ps := ["boards", "dues"]) fun _ _ _ _ _ _ us hl => match us, hl with | [_, _], _ => rfl
  have V_law_told : Vals [] [] := .nil
  obtain ⟨fd_Hedge_m_parts, X_Hedge_m_parts, G_Hedge_m_parts⟩ := D_Hedge_m_parts.ex
  have K_Hedge_m_parts := X_Hedge_m_parts.kp
  have B_Hedge_m_parts := X_Hedge_m_parts.bindsN (ps := ["self"]) fun _ _ _ _ _ _ us hl => match us, hl with | [_], _ => rfl
  have V_Hedge_m_parts : Vals [] [] := .nil
  obtain ⟨fd_Hedge_m_value, X_Hedge_m_value, G_Hedge_m_value⟩ := D_Hedge_m_value.ex
  have K_Hedge_m_value := X_Hedge_m_value.kp
  have B_Hedge_m_value := X_Hedge_m_value.bindsN (ps := ["self"]) fun _ _ _ _ _ _ us hl => match us, hl with | [_], _ => rfl
  have V_Hedge_m_value : Vals [] [] := .nil
  obtain ⟨fd_law_others_stay, X_law_others_stay, G_law_others_stay⟩ := D_law_others_stay.ex
  have K_law_others_stay := X_law_others_stay.kp
  have B_law_others_stay := X_law_others_stay.bindsN (ps := ["board", "dues"]) fun _ _ _ _ _ _ us hl => match us, hl with | [_, _], _ => rfl
  have V_law_others_stay : Vals [] [] := .nil
  obtain ⟨fd_law_same, X_law_same, G_law_same⟩ := D_law_same.ex
  have K_law_same := X_law_same.kp
  have B_law_same := X_law_same.bindsN (ps := ["told", "due"]) fun _ _ _ _ _ _ us hl => match us, hl with | [_, _], _ => rfl
  have V_law_same : Vals [] [] := .nil
  obtain ⟨fd, X⟩ := T.d_law
  refine ⟨fd, X, X.ok sc_law (fun vs H Q E h => len_law h) (fun cdv A outer s H vs Q E hr h => ⟨t_law K E, PSs.nox ?_, pure_law vs H Q E h⟩)⟩
  exact (pss_cons (ps_set (i := 1) sc_law.nd rfl (Or.inl rfl) (pe_call G_law_edges (hr.mono (by decide)) rfl T.g__law_edges K_law_edges B_law_edges V_law_edges pass0 (pa_cons (pe_call G_law_cell (hr.mono (by decide)) rfl T.g__law_cell K_law_cell B_law_cell V_law_cell pass0 (pa_cons (pv 0) (pa_cons pe_int pa_nil))) (pa_cons pe_int pa_nil))))
      (pss_cons (ps_set (i := 2) sc_law.nd rfl (Or.inl rfl) (pe_make T.mk_Hedge G_Hedge_d_init (hr.mono (by decide)) rfl T.g_Hedge B_Hedge_d_init V_Hedge_d_init passL (pa_cons (pe_callTy cr_listQ rfl T.z_list (by decide +kernel) (pa_cons (pv 1) pa_nil)) pa_nil)))
      (pss_cons (ps_set (i := 3) sc_law.nd rfl (Or.inl rfl) (pe_call G_law_hanging (hr.mono (by decide)) rfl T.g__law_hanging K_law_hanging B_law_hanging V_law_hanging pass0 (pa_cons (pv 1) pa_nil)))
      (pss_cons (ps_set (i := 4) sc_law.nd rfl (Or.inl rfl) (pe_call G_law_hedge_parts (hr.mono (by decide)) rfl T.g__law_hedge_parts K_law_hedge_parts B_law_hedge_parts V_law_hedge_parts pass0 (pa_cons (pv 3) pa_nil)))
      (pss_cons (ps_if (PW.pt (pw_or (pt_not (pt_val (pe_call G_law_told (hr.mono (by decide)) rfl T.g__law_told K_law_told B_law_told V_law_told pass0 (pa_cons (pe_meth0 (pv 2) T.cl_Hedge T.mt_Hedge_parts G_Hedge_m_parts (hr.mono (by decide)) B_Hedge_m_parts .nil pass0) (pa_cons (pv 4) pa_nil))))) (pw_or1 (pt_not (pt_val (pe_call G_law_told (hr.mono (by decide)) rfl T.g__law_told K_law_told B_law_told V_law_told pass0 (pa_cons (pe_meth0 (pv 2) T.cl_Hedge T.mt_Hedge_parts G_Hedge_m_parts (hr.mono (by decide)) B_Hedge_m_parts .nil pass0) (pa_cons (pv 4) pa_nil)))))))) (pss_one (ps_ret pe_bl)) pss_nil)
      (pss_cons (ps_if (pt_cmpR op_ne (pe_callB (cr_sum rfl) rfl T.z_sum (by decide +kernel) (pa_cons (pe_lc (own := [("due", 5)]) (g := (gName 5)) (tt := tYes) rfl sc_law.nd (pi_list (pv 4)) (blkOk_by (N := R_law) (sc := defScope s_law) (by decide +kernel)) (fun _ _ _ _ _ => (pg_name (i := 5) sc_law.nd rfl (Or.inl rfl))) (fun _ _ _ _ _ => pts_nil) (fun _ _ _ _ _ => (pe_callB cr_lenQ rfl T.z_len (by decide +kernel) (pa_cons (pe_ix ix_tup (pv 5) pe_int (fun _ _ => rfl)) pa_nil)))) pa_nil)) (pe_callB cr_lenQ rfl T.z_len (by decide +kernel) (pa_cons (pv 3) pa_nil)) (nomark _)) (pss_one (ps_ret pe_bl)) pss_nil)
      (pss_cons (ps_for PassesOwn.never rfl (pi_list (pe_meth0 (pv 2) T.cl_Hedge T.mt_Hedge_parts G_Hedge_m_parts (hr.mono (by decide)) B_Hedge_m_parts .nil pass0)) (pg_name (i := 6) sc_law.nd rfl (Or.inl rfl))
      (pss_one (ps_if (pt_not (pt_val (pe_call G_law_told (hr.mono (by decide)) rfl T.g__law_told K_law_told B_law_told V_law_told pass0 (pa_cons (pe_meth0 (pv 6) T.cl_Hedge T.mt_Hedge_parts G_Hedge_m_parts (hr.mono (by decide)) B_Hedge_m_parts .nil pass0) (pa_cons (pe_lst (pa_cons (pe_meth0 (pv 6) T.cl_Hedge T.mt_Hedge_value G_Hedge_m_value (hr.mono (by decide)) B_Hedge_m_value .nil pass0) pa_nil)) pa_nil))))) (pss_one (ps_ret pe_bl)) pss_nil)))
      (pss_one (ps_ret (pe_and (pe_call G_law_others_stay (hr.mono (by decide)) rfl T.g__law_others_stay K_law_others_stay B_law_others_stay V_law_others_stay pass0 (pa_cons (pv 2) (pa_cons (pv 4) pa_nil))) (pe_one (pe_call G_law_same (hr.mono (by decide)) rfl T.g__law_same K_law_same B_law_same V_law_same pass0 (pa_cons (pe_meth0 (pv 2) T.cl_Hedge T.mt_Hedge_value G_Hedge_m_value (hr.mono (by decide)) B_Hedge_m_value .nil pass0) (pa_cons (pe_tup (pa_cons pe_str (pa_cons (pv 3) pa_nil))) pa_nil))))))))))))))
theorem all_ok {P : Program} {w : World} {K : PySem.W.Frag} {mg : Str → Option Value} {base : Heap} (T : Txt w K mg) : O_law P w K mg base := by
  have h_law_digits : O_law_digits P w K mg base := ok_law_digits T 
  have h_law_edges : O_law_edges P w K mg base := ok_law_edges T h_law_digits
  have h_law_cell : O_law_cell P w K mg base := ok_law_cell T 
  have h_is_whole : O_is_whole P w K mg base := ok_is_whole T 
  have h_check_edge : O_check_edge P w K mg base := ok_check_edge T h_is_whole
  have h_reached : O_reached P w K mg base := ok_reached T 
  have h_Hedge_d_init : O_Hedge_d_init P w K mg base := ok_Hedge_d_init T h_check_edge h_reached
  have h_law_hanging : O_law_hanging P w K mg base := ok_law_hanging T 
  have h_law_hedge_parts : O_law_hedge_parts P w K mg base := ok_law_hedge_parts T 
  have h_law_same : O_law_same P w K mg base := ok_law_same T 
  have h_Hedge_m_value : O_Hedge_m_value P w K mg base := ok_Hedge_m_value T 
  have h_law_told : O_law_told P w K mg base := ok_law_told T h_law_same h_Hedge_m_value
  have h_Hedge_p_together : O_Hedge_p_together P w K mg base := ok_Hedge_p_together T h_reached
  have h_Hedge_m_parts : O_Hedge_m_parts P w K mg base := ok_Hedge_m_parts T h_Hedge_p_together h_Hedge_d_init
  have h_Hedge_m_moves : O_Hedge_m_moves P w K mg base := ok_Hedge_m_moves T h_Hedge_d_init h_Hedge_m_value
  have h_law_others_stay : O_law_others_stay P w K mg base := ok_law_others_stay T h_Hedge_m_moves h_Hedge_m_parts h_Hedge_m_value
  have h_law : O_law P w K mg base := ok_law T h_law_edges h_law_cell h_Hedge_d_init h_law_hanging h_law_hedge_parts h_law_told h_Hedge_m_parts h_Hedge_m_value h_law_others_stay h_law_same
  exact h_law
def fs : List (PySem.W.Frag → Bool) := [fun K => (He.Fa.glo "BadValue").ok K,
  fun K => (He.Fa.glo "COLOURS").ok K,
  fun K => (He.Fa.glo "CUTS").ok K,
  fun K => (He.Fa.glo "Hedge").ok K,
  fun K => (He.Fa.glo "_check_edge").ok K,
  fun K => (He.Fa.glo "_law_cell").ok K,
  fun K => (He.Fa.glo "_law_digits").ok K,
  fun K => (He.Fa.glo "_law_edges").ok K,
  fun K => (He.Fa.glo "_law_hanging").ok K,
  fun K => (He.Fa.glo "_law_hedge_parts").ok K,
  fun K => (He.Fa.glo "_law_others_stay").ok K,
  fun K => (He.Fa.glo "_law_same").ok K,
  fun K => (He.Fa.glo "_law_told").ok K,
  fun K => (He.Fa.glo "_reached").ok K,
  fun K => (He.Fa.glo "is_whole").ok K,
  fun K => (He.Fa.glo "law").ok K,
  fun K => (He.Fa.free "bool").ok K,
  fun K => (He.Fa.free "enumerate").ok K,
  fun K => (He.Fa.free "int").ok K,
  fun K => (He.Fa.free "isinstance").ok K,
  fun K => (He.Fa.free "len").ok K,
  fun K => (He.Fa.free "list").ok K,
  fun K => (He.Fa.free "min").ok K,
  fun K => (He.Fa.free "range").ok K,
  fun K => (He.Fa.free "str").ok K,
  fun K => (He.Fa.free "sum").ok K,
  fun K => (He.Fa.free "tuple").ok K,
  fun K => (He.Fa.free "type").ok K,
  fun K => tupB K (He.ga K "COLOURS") [V.str "blue", V.str "green", V.str "red"],
  fun K => kdB K "CUTS" "left" [V.str "blue", V.str "green"],
  fun K => kdB K "CUTS" "right" [V.str "red", V.str "green"],
  fun K => (He.Fa.int "GROUND" (0)).ok K,
  fun K => (He.Fa.int "MOST_EDGES" (16)).ok K,
  fun K => (He.Fa.int "MOST_KNOT" (15)).ok K,
  fun K => (He.Fa.cls "Hedge").ok K,
  fun K => (He.Fa.exc "BadValue").ok K,
  fun K => inscB K "Hedge",
  fun K => (He.Fa.meth "Hedge" "_together").ok K,
  fun K => (He.Fa.meth "Hedge" "moves").ok K,
  fun K => (He.Fa.meth "Hedge" "parts").ok K,
  fun K => (He.Fa.meth "Hedge" "value").ok K,
  fun K => (He.Fa.mkr "Hedge").ok K,
  fun K => (He.Fa.noat "Hedge" "_edges").ok K]
def fn : List He5.DefA := [{ at_ := fun K => ad_law_digits K, name := "_law_digits", qual := "_law_digits", params := defArgs s_law_digits, body := defBody s_law_digits, scope := defScope s_law_digits, dfl := [] },
  { at_ := fun K => ad_law_edges K, name := "_law_edges", qual := "_law_edges", params := defArgs s_law_edges, body := defBody s_law_edges, scope := defScope s_law_edges, dfl := [] },
  { at_ := fun K => ad_law_cell K, name := "_law_cell", qual := "_law_cell", params := defArgs s_law_cell, body := defBody s_law_cell, scope := defScope s_law_cell, dfl := [] },
  { at_ := fun K => ad_is_whole K, name := "is_whole", qual := "is_whole", params := defArgs s_is_whole, body := defBody s_is_whole, scope := defScope s_is_whole, dfl := [] },
  { at_ := fun K => ad_check_edge K, name := "_check_edge", qual := "_check_edge", params := defArgs s_check_edge, body := defBody s_check_edge, scope := defScope s_check_edge, dfl := [] },
  { at_ := fun K => ad_reached K, name := "_reached", qual := "_reached", params := defArgs s_reached, body := defBody s_reached, scope := defScope s_reached, dfl := [] },
  { at_ := fun K => ad_Hedge_d_init K, name := "__init__", qual := "Hedge.__init__", params := defArgs s_Hedge_d_init, body := defBody s_Hedge_d_init, scope := defScope s_Hedge_d_init, dfl := [] },
  { at_ := fun K => ad_law_hanging K, name := "_law_hanging", qual := "_law_hanging", params := defArgs s_law_hanging, body := defBody s_law_hanging, scope := defScope s_law_hanging, dfl := [] },
  { at_ := fun K => ad_law_hedge_parts K, name := "_law_hedge_parts", qual := "_law_hedge_parts", params := defArgs s_law_hedge_parts, body := defBody s_law_hedge_parts, scope := defScope s_law_hedge_parts, dfl := [] },
  { at_ := fun K => ad_law_same K, name := "_law_same", qual := "_law_same", params := defArgs s_law_same, body := defBody s_law_same, scope := defScope s_law_same, dfl := [] },
  { at_ := fun K => ad_Hedge_m_value K, name := "value", qual := "Hedge.value", params := defArgs s_Hedge_m_value, body := defBody s_Hedge_m_value, scope := defScope s_Hedge_m_value, dfl := [] },
  { at_ := fun K => ad_law_told K, name := "_law_told", qual := "_law_told", params := defArgs s_law_told, body := defBody s_law_told, scope := defScope s_law_told, dfl := [] },
  { at_ := fun K => ad_Hedge_p_together K, name := "_together", qual := "Hedge._together", params := defArgs s_Hedge_p_together, body := defBody s_Hedge_p_together, scope := defScope s_Hedge_p_together, dfl := [] },
  { at_ := fun K => ad_Hedge_m_parts K, name := "parts", qual := "Hedge.parts", params := defArgs s_Hedge_m_parts, body := defBody s_Hedge_m_parts, scope := defScope s_Hedge_m_parts, dfl := [] },
  { at_ := fun K => ad_Hedge_m_moves K, name := "moves", qual := "Hedge.moves", params := defArgs s_Hedge_m_moves, body := defBody s_Hedge_m_moves, scope := defScope s_Hedge_m_moves, dfl := [] },
  { at_ := fun K => ad_law_others_stay K, name := "_law_others_stay", qual := "_law_others_stay", params := defArgs s_law_others_stay, body := defBody s_law_others_stay, scope := defScope s_law_others_stay, dfl := [] },
  { at_ := fun K => ad_law K, name := "law", qual := "law", params := defArgs s_law, body := defBody s_law, scope := defScope s_law, dfl := [] }]
def ts : List He.Tab := [(fun K => He.ga K "CUTS", ["left", "right"])]
theorem txt_of {w : World} {K : PySem.W.Frag} {h : Heap} {mg : Str → Option Value} (X : K.In h) (G : h.Ns mainGlobals mg) (c : SaysMT fs fn ts w K) : Txt w K mg where
  g_BadValue := He.glo_ok X G (c.m.fact 0 rfl)
  g_COLOURS := He.glo_ok X G (c.m.fact 1 rfl)
  g_CUTS := He.glo_ok X G (c.m.fact 2 rfl)
  g_Hedge := He.glo_ok X G (c.m.fact 3 rfl)
  g__check_edge := He.glo_ok X G (c.m.fact 4 rfl)
  g__law_cell := He.glo_ok X G (c.m.fact 5 rfl)
  g__law_digits := He.glo_ok X G (c.m.fact 6 rfl)
  g__law_edges := He.glo_ok X G (c.m.fact 7 rfl)
  g__law_hanging := He.glo_ok X G (c.m.fact 8 rfl)
  g__law_hedge_parts := He.glo_ok X G (c.m.fact 9 rfl)
  g__law_others_stay := He.glo_ok X G (c.m.fact 10 rfl)
  g__law_same := He.glo_ok X G (c.m.fact 11 rfl)
  g__law_told := He.glo_ok X G (c.m.fact 12 rfl)
  g__reached := He.glo_ok X G (c.m.fact 13 rfl)
  g_is_whole := He.glo_ok X G (c.m.fact 14 rfl)
  g_law := He.glo_ok X G (c.m.fact 15 rfl)
  z_bool := He.free_ok X G (c.m.fact 16 rfl)
  z_enumerate := He.free_ok X G (c.m.fact 17 rfl)
  z_int := He.free_ok X G (c.m.fact 18 rfl)
  z_isinstance := He.free_ok X G (c.m.fact 19 rfl)
  z_len := He.free_ok X G (c.m.fact 20 rfl)
  z_list := He.free_ok X G (c.m.fact 21 rfl)
  z_min := He.free_ok X G (c.m.fact 22 rfl)
  z_range := He.free_ok X G (c.m.fact 23 rfl)
  z_str := He.free_ok X G (c.m.fact 24 rfl)
  z_sum := He.free_ok X G (c.m.fact 25 rfl)
  z_tuple := He.free_ok X G (c.m.fact 26 rfl)
  z_type := He.free_ok X G (c.m.fact 27 rfl)
  tx_COLOURS := tupB_ok (c.m.fact 28 rfl)
  tk_CUTS_left := kdB_ok (c.m.fact 29 rfl)
  tk_CUTS_right := kdB_ok (c.m.fact 30 rfl)
  c_GROUND := He.int_ok X G (c.m.fact 31 rfl)
  c_MOST_EDGES := He.int_ok X G (c.m.fact 32 rfl)
  c_MOST_KNOT := He.int_ok X G (c.m.fact 33 rfl)
  cl_Hedge := He.cls_ok (c.m.fact 34 rfl)
  x_BadValue := He.exc_ok (c.m.fact 35 rfl)
  ic_Hedge := insc_ok (c.m.fact 36 rfl)
  mt_Hedge__together := He.meth_ok (c.m.fact 37 rfl)
  mt_Hedge_moves := He.meth_ok (c.m.fact 38 rfl)
  mt_Hedge_parts := He.meth_ok (c.m.fact 39 rfl)
  mt_Hedge_value := He.meth_ok (c.m.fact 40 rfl)
  mk_Hedge := He.mkr_ok (c.m.fact 41 rfl)
  na_Hedge__edges := He.noat_ok (c.m.fact 42 rfl)
  d_law_digits := c.m.dfn 0 rfl
  d_law_edges := c.m.dfn 1 rfl
  d_law_cell := c.m.dfn 2 rfl
  d_is_whole := c.m.dfn 3 rfl
  d_check_edge := c.m.dfn 4 rfl
  d_reached := c.m.dfn 5 rfl
  d_Hedge_d_init := c.m.dfn 6 rfl
  d_law_hanging := c.m.dfn 7 rfl
  d_law_hedge_parts := c.m.dfn 8 rfl
  d_law_same := c.m.dfn 9 rfl
  d_Hedge_m_value := c.m.dfn 10 rfl
  d_law_told := c.m.dfn 11 rfl
  d_Hedge_p_together := c.m.dfn 12 rfl
  d_Hedge_m_parts := c.m.dfn 13 rfl
  d_Hedge_m_moves := c.m.dfn 14 rfl
  d_law_others_stay := c.m.dfn 15 rfl
  d_law := c.m.dfn 16 rfl
  kd_CUTS := c.tab 0 rfl
def loose : List PySem.Str := (["PlayError", "BadValue", "is_whole", "MOST_EDGES", "MOST_KNOT", "GROUND", "COLOURS", "CUTS", "Hedge", "_check_edge", "_reached", "_law_cell", "_law_digits", "_law_same", "_law_hanging", "_law_hedge_parts", "_law_edges", "_law_told", "_law_others_stay"] : List PySem.Str)
abbrev R : PySem.W.OpenRow := PySem.W.OpenLaw.row PySem.Challenge.rw_sumsplay_k57_parts_of_hedges
abbrev hk : PySem.W.Hook := hookMT 6 fs fn ts
def ob (s : PySem.W.SharedT) : AlM := obsMTG 6 fs fn ts (HandSHeadRun.getT s)
theorem ob_eq (s : PySem.W.SharedT) : ob s = hk.obs s.abs := obsMTG_eq (HandSHeadRun.getT_eq s)
theorem run (w : World) : HandSHeadRun.RunEq R (PySem.W.view R.prog [23]) hk ob 20000 loose w := by
  refine bothF (p := fun w => HandSHeadRun.RunEq R (PySem.W.view R.prog [23]) hk ob 20000 loose w) (fun w os => ?_) (fun w os => ?_) w
  · kernel_rfl
  · kernel_rfl
theorem facts {P : Program} {w : World} {K : PySem.W.Frag} {h : Heap} {mg : Str → Option Value} {f : Addr} (X : K.In h) (G : h.Ns mainGlobals mg) (hfa : mg ("law" : Str) = some (.ref f)) (c : SaysMT fs fn ts w K) (hg : (He.Fa.glo "law").ok K = true) :
    ∃ fd : FuncData, (∀ (s : Shared) (v : Value), BindsTo s fd ⟨[v], []⟩ [("script", v)]) ∧ ∀ base : Heap, K.In base → base.Ns mainGlobals mg → FnOk P w K mg base CX0 8 f fd ["script"] (sp_law K) := by
  have T := txt_of X G c
  obtain ⟨fd, F⟩ := T.d_law
  have e := hfa.symm.trans (He.glo_ok X G hg)
  cases e
  have b := FunD.bindsA (ps := ["script"]) F fun _ _ _ _ _ _ us hl => match us, hl with | [_], _ => rfl
  refine ⟨fd, fun s v => b s [v] rfl, fun base _ _ => ?_⟩
  obtain ⟨fd2, F2, G2⟩ := (all_ok (P := P) (w := w) (base := base) T).ex
  have e2 : fd2 = fd := fd_same F2 F
  rw [← e2]; exact G2
end Mine
open PySem PySem.W PySem.Calls PyProof.Rows
set_option maxRecDepth 100000 in
set_option maxHeartbeats 0 in
theorem PySem.Challenge.cw_sumsplay_k57_parts_of_hedges_holds : PySem.Challenge.rw_sumsplay_k57_parts_of_hedges.Holds := by
  w_on; o_law
  refine HandSHeadRun.head_any (r := OpenLaw.row PySem.Challenge.rw_sumsplay_k57_parts_of_hedges) (q := view (OpenLaw.row PySem.Challenge.rw_sumsplay_k57_parts_of_hedges).prog [23]) (H := Mine.hk) (ob := Mine.ob) (M := 20000) (loose := Mine.loose) (d := HandSHeadRun.topDef (OpenLaw.row PySem.Challenge.rw_sumsplay_k57_parts_of_hedges).prog 23) (kwd := []) Mine.ob_eq
    (by kernel_rfl) (fun s => by kernel_rfl) Mine.run (by kernel_rfl) (by kernel_rfl) (by kernel_rfl) (by rfl) (by first | assumption | decide +kernel) (by decide +kernel) ⟨rfl, rfl, rfl, rfl, rfl, by decide +kernel⟩ ?hw ?hc
  case hw => w_witness2
  case hc =>
    refine L2.walk_ofE (l := PySem.Challenge.rw_sumsplay_k57_parts_of_hedges) (n := 63) (k := 8) (x := "script") (CX := L2.CX0) rfl (by decide) (by kernel_rfl) ⟨rfl, by decide, by decide⟩ ?F (fun _ _ _ _ z => z)
    intro w mg fa h Y G hmg0
    obtain ⟨K, KX, c⟩ := Y
    have hmg : mg ("law" : PySem.Str) = some (.ref fa) := by
      have e : (HandSHeadRun.topDef (OpenLaw.row PySem.Challenge.rw_sumsplay_k57_parts_of_hedges).prog 23).name = ("law" : PySem.Str) := by kernel_rfl
      rw [← e]
      exact hmg0
    obtain ⟨fd, hb, hF⟩ := Mine.facts (P := (PySem.Challenge.rw_sumsplay_k57_parts_of_hedges).prog) (w := w) KX G hmg c (c.m.fact 15 rfl)
    exact ⟨K, fd, Mine.sp_law K, KX, hb, fun H a ns hl _ hS => ⟨⟨a, ns, rfl, hS⟩, fun v H' e => e⟩, hF⟩
