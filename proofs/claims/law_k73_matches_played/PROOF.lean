import PyProof.Rows.All
import Wide.All
import OpenK.AllK
import Wide.FinOn
import HandS.ForMost
import HandS.ForExc
import HandS.Defaults
import HandS.MakeKw
import HandS.MakeKwOnly
import HandS.IsInst
import HandS.Codes
import HandS.Property
import HandS.Evl
import HandS.Steps
import HandS.More
import HandS.WideBits
import HandS.Wide
import HandS.FStr
import HandS.HeadEnd
import HandS.HeadHook2
import HandS.HeadHook4
import HandS.HeadNt
import HandS.Head0
import HandS.Head1
import HandS.Head2
import HandS.ExcIs
import KE.KOpsOwn
import HandS.HeadHook3
import KE.BitLaws
import HandS.WordsExc
import HandS.ExcOwn
import HandS.CallSlots
import HandS.Iter
import KE.GoesEnum
import KE.GoesMore
import HandS.Star
import HandS.TupAny
import KE.KeyNested
import PyProof.Rows.TupDisplay
import HandS.Dict
import HandS.SetFor
import HandS.Strs
import PyProof.Rows.SetFrom
import HandS.SortInts
import KE.KEqDeep
import HandS.Style
import HandS.TupMul
import HandS.Text
import KE.KSetDisp
import KE.GoesSet
import PyProof.StrBlock2
import HandS.DictComp
import HandS.Small
import HandS.Flow
import KE.KDictKeyed
import KE.KDictWalk
import KE.KDictList
import HandS.SetKeys
import HandS.Deep
import HandS.List
import HandS.EndBits
import HandS.DeepEq
import HandS.DictTup
import HandS.TupLen
import HandS.Walk
import PyProof.Rows.SeqMore
import PySem.Challenge.RW_sumsplay_k73_matches_played
set_option Elab.async false
set_option linter.all false
set_option maxRecDepth 100000
set_option maxHeartbeats 4000000
namespace Mine
open PySem PySem.Spec PyProof.Rows L2
/-! a target o.f -/
section
variable {X : Cx} {o : Expr} {f : Str} {pos : Pos} {ta : TE}
def gFld (K : PySem.W.Frag) (ta : TE) (f : Str) : TG := fun v σ H Q => ta σ H fun x H1 =>
  ∃ a C dx fs, x = V.ref a ∧ H1 a = some (HO.ins C dx fs) ∧ Cls K C ∧ NoAttr K C f ∧ fs.length < 1000 ∧ Q σ (upd H1 a (HO.ins C dx (putF f v fs)))
theorem pg_fld (ho : PE X o ta) : PG X (.Attribute o f pos) (gFld X.K ta f) := by
  constructor
  intro pins s σ H v u Q I rv hw
  rw [assign_Attribute]
  apply wpAny_bind
  apply wpAny_holding
  refine thn (ho.run pins s σ H _ I hw) ?_
  rintro ov s1 ⟨x, H1, I1, rx, a, C, dx, fs, rfl, ea, hc, hn, hl, q⟩
  cases (show ov = Value.ref a from rx)
  apply wpAny_bind
  apply wpAny_standAt
  apply wpAny_bind
  apply wpAny_holding
  refine setattr_ok I1 ea hc hn hl rv ?_
  intro s3 I3
  exact wpAny_release ⟨σ, _, I3, q⟩
end

open Evl (Ex)
/-! readings by short names -/
abbrev rAddI : R2 := rI0 fun i j => .int (i + j)
abbrev rSubI : R2 := rI0 fun i j => .int (i - j)
abbrev rMulI : R2 := rI CMul fun i j => .int (i * j)
abbrev rDivI : R2 := rI CDiv fun i j => .int (i / j)
abbrev rDivW : R2 := rI CDivW fun i j => .int (i / j)
abbrev rMulW : R2 := rI CMulW fun i j => .int (i * j)
abbrev rModI : R2 := rI (fun _ j => 0 < j) fun i j => .int (i % j)
abbrev rPowI : R2 := rI CPow fun i j => .int (i ^ j.toNat)
abbrev rShlI : R2 := rI CPow fun i j => .int (i * 2 ^ j.toNat)
abbrev rShrI : R2 := rI (fun _ j => 0 ≤ j) fun i j => .int (i / 2 ^ j.toNat)
abbrev rAndI : R2 := rI0 fun i j => .int (Builtin.bitAnd i j)
abbrev rOrI : R2 := rI0 fun i j => .int (Builtin.bitOr i j)
abbrev rXorI : R2 := rI0 fun i j => .int (Builtin.bitXor i j)
abbrev rLtI : R2 := rI0 fun i j => .bl (decide (i < j))
abbrev rLeI : R2 := rI0 fun i j => .bl (decide (i ≤ j))
abbrev rGtI : R2 := rI0 fun i j => .bl (decide (j < i))
abbrev rGeI : R2 := rI0 fun i j => .bl (decide (j ≤ i))
abbrev rNegI : V → Hp → VK → Prop := rU fun i => .int (-i)
def rIsTy : R2 := fun x y H Q => ∃ a b, x = V.ty a ∧
  y = V.ty b ∧ Q (.bl (decide (a = b))) H
def rIntI : List V → Hp → VK → Prop := fun xs H Q => ∃ i, xs = [V.int i] ∧ Q (.int i) H
def rAbsI : List V → Hp → VK → Prop := fun xs H Q => ∃ i, xs = [V.int i] ∧ Q (.int (if i < 0 then -i else i)) H
def rMax2 : List V → Hp → VK → Prop := fun xs H Q => ∃ i j, xs = [V.int i, V.int j] ∧
  Q (.int (if j > i then j else i)) H
def rMin2 : List V → Hp → VK → Prop := fun xs H Q => ∃ i j, xs = [V.int i, V.int j] ∧
  Q (.int (if j < i then j else i)) H
def rLenQ (K : PySem.W.Frag) : List V → Hp → VK → Prop := fun xs H Q => ∃ p ys, xs = [V.ref p] ∧
  (SqL K H p ys ∨ SqT K H p ys) ∧ Q (.int ys.length) H
def rLenS : List V → Hp → VK → Prop := fun xs H Q => ∃ z, xs = [V.str z] ∧ z.length ≤ sizeLine ∧
  Q (.int z.length) H
def rListQ (K : PySem.W.Frag) : List V → Hp → VK → Prop := fun xs H Q => ∃ p ys, xs = [V.ref p] ∧
  (SqL K H p ys ∨ SqT K H p ys) ∧ ∀ l, H l = none → Q (.ref l) (upd H l (.lst ys))
def rStrI : List V → Hp → VK → Prop := fun xs H Q => ∃ i, xs = [V.int i] ∧ i.natAbs.log2 < 1920 ∧
  Q (.str (toString i)) H
def rIsC (C : Addr) : List V → Hp → VK → Prop := fun xs H Q => ∃ a dx fs, xs = [V.ref a, V.ref C] ∧
  H a = some (HO.ins C dx fs) ∧ Q (.bl true) H
def rCatS : R2 := fun x y H Q => ∃ i j, x = V.str i ∧ y = V.str j ∧ i.length + j.length ≤ sizeLine ∧
  Q (.str (i ++ j)) H
section
variable {X : Cx}
theorem cr_intI : CallR X (.type "int") rIntI := fun pins s σ H xs us Q I r h =>
  call_int1 pins s σ H xs us Q I r (Or.inl h)
theorem cr_absI : CallR X (.builtin "abs") rAbsI := call_abs
theorem cr_max2 (hc : X.calm = true) : CallR X (.builtin "max") rMax2 := call_max2 hc
theorem cr_min2 (hc : X.calm = true) : CallR X (.builtin "min") rMin2 := call_min2 hc
theorem cr_lenQ : CallR X (.builtin "len") (rLenQ X.K) := call_len_seq
theorem cr_lenS : CallR X (.builtin "len") rLenS := call_len_str
theorem cr_listQ : CallR X (.type "list") (rListQ X.K) := call_list_of
theorem cr_strI : CallR X (.type "str") rStrI := call_str_int
theorem cr_isC {C : Addr} (c : C8.InsC X.K C) : CallR X (.builtin "isinstance") (rIsC C) := C8.call_isC c
theorem cst_ok {x : Str} {i : Int} (h : ∃ t, X.mg x = some (.int i t)) : ∃ u, X.mg x = some u ∧ RelV (.int i) u :=
  let ⟨t, e⟩ := h
  ⟨_, e, t, rfl⟩
end
/-! promises: what is asked, what is given, what is raised -/
def spR (pre : List V → Hp → Prop) (post : List V → Hp → V → Hp → Prop) : Sp := fun vs H Q _ =>
  pre vs H ∧ ∀ v H', post vs H v H' → Q v H'
def spX (pre : List V → Hp → Prop) (post : List V → Hp → V → Hp → Prop) (ex : List V → Hp → Value → Option Addr → Hp → Prop) : Sp := fun vs H Q E =>
  pre vs H ∧ (∀ v H', post vs H v H' → Q v H') ∧ ∀ c d H', ex vs H c d H' → E c d H'
structure DefOk (P : Program) (w : World) (K : PySem.W.Frag) (mg : Str → Option Value) (base : Heap) (CX : CXT) (k : Nat) (x qual : Str) (st : Stmt) (dvs : List V) (f : Addr) (ps : List Str) (sp : Sp) : Prop where
  ex : ∃ fd, FunD K x qual (defArgs st) (defBody st) (defScope st) dvs [] f fd ∧ FnOk P w K mg base CX k f fd ps sp
/-! readings, step by step, forwards -/
section
variable {σ : L2.St} {H : Hp} {Q : VK} {ta tb tc te tv : TE} {K : PySem.W.Frag} {D : Ends}
theorem k_var {i : Nat} {v : V} (h : σ[i]? = some (some v)) (q : Q v H) : tVar i σ H Q := ⟨v, h, q⟩
theorem k_c {v : V} (q : Q v H) : tC v σ H Q := q
theorem k_op {r : R2} (q : ta σ H fun x H1 => tb σ H1 fun y H2 => r x y H2 Q) : tOp r ta tb σ H Q := q
theorem k_un {r : V → Hp → VK → Prop} (q : ta σ H fun x H1 => r x H1 Q) : tUn r ta σ H Q := q
theorem k_I0 {g : Int → Int → V} {i j : Int} (q : Q (g i j) H) : rI0 g (.int i) (.int j) H Q := ⟨i, j, rfl, rfl, q⟩
theorem k_I {C : Int → Int → Prop} {g : Int → Int → V} {i j : Int} (c : C i j) (q : Q (g i j) H) : rI C g (.int i) (.int j) H Q := ⟨i, j, rfl, rfl, c, q⟩
theorem k_U {g : Int → V} {i : Int} (q : Q (g i) H) : rU g (.int i) H Q := ⟨i, rfl, q⟩
theorem k_eq {x y : V} (s : scal x y = true) (q : Q (.bl (decide (x = y))) H) : rEq x y H Q := ⟨s, q⟩
theorem k_ne {x y : V} (s : scal x y = true) (q : Q (.bl (!decide (x = y))) H) : rNe x y H Q := ⟨s, q⟩
theorem k_eqI {i j : Int} (q : Q (.bl (decide (i = j))) H) : rEq (.int i) (.int j) H Q := ⟨rfl, by
  have e : decide (V.int i = V.int j) = decide (i = j) := by simp
  rw [e]; exact q⟩
theorem k_eqB {i j : Bool} (q : Q (.bl (decide (i = j))) H) : rEq (.bl i) (.bl j) H Q := ⟨rfl, by
  have e : decide (V.bl i = V.bl j) = decide (i = j) := by simp
  rw [e]; exact q⟩
theorem k_neI {i j : Int} (q : Q (.bl (decide (i ≠ j))) H) : rNe (.int i) (.int j) H Q := ⟨rfl, by
  have e : (!decide (V.int i = V.int j)) = decide (i ≠ j) := by simp
  rw [e]; exact q⟩
theorem k_isTy {a b : String} (q : Q (.bl (decide (a = b))) H) : rIsTy (.ty a) (.ty b) H Q := ⟨a, b, rfl, rfl, q⟩
theorem k_isN {x : V} (q : Q (.bl (decide (x = .non))) H) : rIsN x .non H Q := ⟨rfl, q⟩
theorem k_notN {x : V} (q : Q (.bl (!decide (x = .non))) H) : rNotN x .non H Q := ⟨rfl, q⟩
theorem k_ixL {p : Addr} {xs : List V} {i : Int} {v : V} (h : SqL K H p xs) (e : atI xs i = some v) (q : Q v H) : rIxL K (.ref p) (.int i) H Q := ⟨p, xs, i, v, rfl, rfl, h, e, q⟩
theorem k_ixT {p : Addr} {xs : List V} {i : Int} {v : V} (h : SqT K H p xs) (e : atI xs i = some v) (q : Q v H) : rIxT K (.ref p) (.int i) H Q := ⟨p, xs, i, v, rfl, rfl, h, e, q⟩
theorem k_andV (q : ta σ H fun x H1 => ∃ c, x = .bl c ∧ if c = true then tb σ H1 Q else Q (.bl false) H1) : tAndV ta tb σ H Q := q
theorem k_orV (q : ta σ H fun x H1 => ∃ c, x = .bl c ∧ if c = true then Q (.bl true) H1 else tb σ H1 Q) : tOrV ta tb σ H Q := q
theorem k_notV (q : ta σ H fun x H1 => ∃ c, x = .bl c ∧ Q (.bl (!c)) H1) : tNotV ta σ H Q := q
theorem k_if {t : TT} (q : t σ H fun c H1 => if c = true then ta σ H1 Q else tb σ H1 Q) : tIf t ta tb σ H Q := q
theorem k_chain {r r' : R2} (q : ta σ H fun x H1 => tb σ H1 fun y H2 => r x y H2 fun z H3 => ∃ k, z = .bl k ∧ (if k = true then tc σ H3 fun w' H4 => r' y w' H4 Q else Q (.bl false) H3)) : tChain r r' ta tb tc σ H Q := q
theorem k_bl {P : Bool → Prop} {c : Bool} (q : P c) : ∃ k, V.bl c = V.bl k ∧ P k := ⟨c, rfl, q⟩
theorem k_tup {t : TA} (q : t σ H fun xs H1 => xs.length ≤ sizeLine ∧ ∀ p, H1 p = none → Q (.ref p) (upd H1 p (.tup xs))) : tTup t σ H Q := q
theorem k_lst {t : TA} (q : t σ H fun xs H1 => xs.length ≤ sizeLine ∧ ∀ p, H1 p = none → Q (.ref p) (upd H1 p (.lst xs))) : tLst t σ H Q := q
theorem k_cb {r : List V → Hp → VK → Prop} {t : TA} (q : t σ H fun vs H1 => r vs H1 Q) : tCB r t σ H Q := q
theorem k_nil {R : List V → Hp → Prop} (q : R [] H) : tNil σ H R := q
theorem k_cons {t : TA} {R : List V → Hp → Prop} (q : ta σ H fun x H1 => t σ H1 fun xs H2 => R (x :: xs) H2) : tCons ta t σ H R := q
theorem k_rInt {i : Int} (q : Q (.int i) H) : rIntI [.int i] H Q := ⟨i, rfl, q⟩
theorem k_rAbs {i : Int} (q : Q (.int (if i < 0 then -i else i)) H) : rAbsI [.int i] H Q := ⟨i, rfl, q⟩
theorem k_rMax {i j : Int} (q : Q (.int (if j > i then j else i)) H) : rMax2 [.int i, .int j] H Q := ⟨i, j, rfl, q⟩
theorem k_rMin {i j : Int} (q : Q (.int (if j < i then j else i)) H) : rMin2 [.int i, .int j] H Q := ⟨i, j, rfl, q⟩
theorem k_rLenL {p : Addr} {ys : List V} (h : SqL K H p ys) (q : Q (.int ys.length) H) : rLenQ K [.ref p] H Q := ⟨p, ys, rfl, Or.inl h, q⟩
theorem k_rLenT {p : Addr} {ys : List V} (h : SqT K H p ys) (q : Q (.int ys.length) H) : rLenQ K [.ref p] H Q := ⟨p, ys, rfl, Or.inr h, q⟩
theorem k_rStr {i : Int} (h : i.natAbs.log2 < 1920) (q : Q (.str (toString i)) H) : rStrI [.int i] H Q := ⟨i, rfl, h, q⟩
theorem k_rIsC {C a dx : Addr} {fs : List (Str × V)} (h : H a = some (.ins C dx fs)) (q : Q (.bl true) H) : rIsC C [.ref a, .ref C] H Q := ⟨a, dx, fs, rfl, h, q⟩
theorem k_isi {x c : V} {t u : Value} {b : Bool} (hc : ClsV c u) (ht : TyX K H x t) (e : PySem.W.kitOne K t u = some b) (q : Q (.bl b) H) : rIsi K [x, c] H Q := ⟨x, c, t, u, b, rfl, hc, ht, e, q⟩
theorem k_fld {a C dx : Addr} {fs : List (Str × V)} {f : Str} {v : V} (ha : ta σ H fun x H1 => x = .ref a ∧ H1 a = some (.ins C dx fs) ∧ Cls K C ∧ NoAttr K C f ∧ fs.lookup f = some v ∧ Q v H1)
    (mono : ∀ Q1 Q2 : VK, (∀ x H1, Q1 x H1 → Q2 x H1) → ta σ H Q1 → ta σ H Q2) : tFld K ta f σ H Q :=
  mono _ _ (fun _ _ ⟨h1, h2, h3, h4, h5, h6⟩ => ⟨a, C, dx, fs, v, h1, h2, h3, h4, h5, h6⟩) ha
theorem k_call {sp : Sp} {dvs : List V} {E : XK} {t : TA} (q : t σ H fun vs H1 => sp (vs ++ dvs) H1 Q E) : tCall sp dvs E t σ H Q := q
theorem k_meth {C : Addr} {m : Str} {sp : Sp} {dvs : List V} {E : XK} {t : TA} (q : ta σ H fun x H1 => ∃ a dx fs, x = .ref a ∧ H1 a = some (.ins C dx fs) ∧ fs.lookup m = none ∧ t σ H1 fun vs H2 => sp (x :: (vs ++ dvs)) H2 Q E) : tMeth C m sp dvs E ta t σ H Q := q
theorem k_make {C : Addr} {sp : Sp} {dvs : List V} {E : XK} {t : TA} (q : t σ H fun vs H1 => ∀ x dx, H1 x = none → H1 dx = none → dx ≠ x → sp (.ref x :: (vs ++ dvs)) (upd (upd H1 dx (.own x)) x (.ins C dx [])) (fun v H2 => v = .non ∧ Q (.ref x) H2) E) : tMake C sp dvs E t σ H Q := q
theorem k_prop {C : Addr} {sp : Sp} {dvs : List V} {E : XK} (q : ta σ H fun x H1 => ∃ a dx fs, x = .ref a ∧ H1 a = some (.ins C dx fs) ∧ sp (.ref a :: dvs) H1 Q E) : tProp C sp dvs E ta σ H Q := q
/-! tests -/
variable {t u : TT} {R : Bool → Hp → Prop}
theorem k_test (q : te σ H fun x H' => ∃ k, x = .bl k ∧ R k H') : tTest te σ H R := q
theorem k_B (q : te σ H fun x H' => ∃ k, x = .bl k ∧ R k H') : tB te σ H R := q
theorem k_and (q : t σ H fun c H1 => if c = true then u σ H1 R else R false H1) : tAnd t u σ H R := q
theorem k_or (q : t σ H fun c H1 => if c = true then R true H1 else u σ H1 R) : tOr t u σ H R := q
theorem k_not (q : t σ H fun c H1 => R (!c) H1) : tNot t σ H R := q
/-! statements -/
variable {t1 t2 : TS} {g : TG}
theorem k_seq (q : t1 { D with nx := t2 D } σ H) : tSeq t1 t2 D σ H := q
theorem k_next (q : D.nx σ H) : tNext D σ H := q
theorem k_asg (q : te σ H fun x H1 => g x σ H1 D.nx) : tAsg te g D σ H := q
theorem k_name {i : Nat} {v : V} {R : L2.St → Hp → Prop} (q : R (σ.set i (some v)) H) : gName i v σ H R := q
theorem k_ret (q : te σ H D.rt) : tRet te D σ H := q
theorem k_drop (q : te σ H fun _ H1 => D.nx σ H1) : tDrop te D σ H := q
theorem k_ifS (q : t σ H fun b H1 => if b = true then t1 D σ H1 else t2 D σ H1) : tIfS t t1 t2 D σ H := q
theorem k_gtup {n : Nat} {tg : TGs} {a : Addr} {xs : List V} {R : L2.St → Hp → Prop} (h : SqT K H a xs) (l : xs.length = n) (q : tg xs σ H R) : gTup K n tg (.ref a) σ H R := ⟨a, xs, rfl, h, l, q⟩
theorem k_gcons {tg : TG} {tr : TGs} {v : V} {r : List V} {R : L2.St → Hp → Prop} (q : tg v σ H fun σ' H' => tr r σ' H' R) : gCons tg tr (v :: r) σ H R := ⟨v, r, rfl, q⟩
theorem k_gnil {R : L2.St → Hp → Prop} (q : R σ H) : gNil [] σ H R := ⟨rfl, q⟩
theorem k_gfld {a C dx : Addr} {i : Nat} {fs : List (Str × V)} {f : Str} {v : V} {R : L2.St → Hp → Prop} (hs : σ[i]? = some (some (.ref a))) (h : H a = some (.ins C dx fs)) (hc : Cls K C) (hn : NoAttr K C f) (hl : fs.length < 1000) (q : R σ (upd H a (.ins C dx (putF f v fs)))) : gFld K (tVar i) f v σ H R :=
  ⟨_, hs, a, C, dx, fs, rfl, h, hc, hn, hl, q⟩
theorem k_fldv {a C dx : Addr} {i : Nat} {fs : List (Str × V)} {f : Str} {v : V} (hs : σ[i]? = some (some (.ref a))) (h : H a = some (.ins C dx fs)) (hc : Cls K C) (hn : NoAttr K C f) (hl : fs.lookup f = some v) (q : Q v H) : tFld K (tVar i) f σ H Q :=
  ⟨_, hs, a, C, dx, fs, v, rfl, h, hc, hn, hl, q⟩
theorem k_iteT {A B : Prop} (q : A) : if true = true then A else B := q
theorem k_iteF {A B : Prop} (q : B) : if false = true then A else B := by simpa using q
theorem k_pow12 (q : Q (.int 1000000000000) H) : rPowI (.int 10) (.int 12) H Q := k_I ⟨by decide, by decide, by decide⟩ q
theorem k_pow11 (q : Q (.int 100000000000) H) : rPowI (.int 10) (.int 11) H Q := k_I ⟨by decide, by decide, by decide⟩ q
theorem k_pow9 (q : Q (.int 1000000000) H) : rPowI (.int 10) (.int 9) H Q := k_I ⟨by decide, by decide, by decide⟩ q
theorem k_pow30 (q : Q (.int 1000000000000000000000000000000) H) : rPowI (.int 10) (.int 30) H Q := k_I ⟨by decide, by decide, by decide⟩ q
theorem k_pow18 (q : Q (.int 1000000000000000000) H) : rPowI (.int 10) (.int 18) H Q := k_I ⟨by decide, by decide, by decide⟩ q
theorem k_minL {i j : Int} (q : ∀ m, m ≤ i → m ≤ j → (m = i ∨ m = j) → Q (.int m) H) : rMin2 [.int i, .int j] H Q := by
  refine ⟨i, j, rfl, ?_⟩
  by_cases h : j < i
  · rw [if_pos h]; exact q j (by omega) (by omega) (Or.inr rfl)
  · rw [if_neg h]; exact q i (by omega) (by omega) (Or.inl rfl)
theorem k_maxL {i j : Int} (q : ∀ m, i ≤ m → j ≤ m → (m = i ∨ m = j) → Q (.int m) H) : rMax2 [.int i, .int j] H Q := by
  refine ⟨i, j, rfl, ?_⟩
  by_cases h : j > i
  · rw [if_pos h]; exact q j (by omega) (by omega) (Or.inr rfl)
  · rw [if_neg h]; exact q i (by omega) (by omega) (Or.inl rfl)
theorem k_shl1 {j : Int} (h : 0 ≤ j ∧ j ≤ 1000000) (q : ∀ m : Int, 1 ≤ m → m = 2 ^ j.toNat → Q (.int m) H) : rShlI (.int 1) (.int j) H Q := by
  refine k_I ⟨h.1, h.2, by decide⟩ ?_
  rw [Int.one_mul]
  refine q _ ?_ rfl
  have hp : (0 : Int) < 2 ^ j.toNat := Int.pow_pos (by decide)
  omega
theorem k_iteNT {A B : Prop} (q : B) : if (!true) = true then A else B := by simpa using q
theorem k_iteNF {A B : Prop} (q : A) : if (!false) = true then A else B := by simpa using q
theorem k_raise {E : XK} {c : Value} (q : E c none H) : tRaise E c D σ H := q
theorem k_iteD {p A B : Prop} [Decidable p] (h1 : p → A) (h2 : ¬ p → B) : if decide p = true then A else B := by
  by_cases h : p
  · rw [if_pos (decide_eq_true h)]; exact h1 h
  · rw [if_neg (by simpa using h)]; exact h2 h
theorem k_iteN {p A B : Prop} [Decidable p] (h1 : ¬ p → A) (h2 : p → B) : if (!decide p) = true then A else B := by
  by_cases h : p
  · rw [if_neg (by simpa using h)]; exact h2 h
  · rw [if_pos (by simpa using h)]; exact h1 h
theorem k_iteB {b : Bool} {A B : Prop} (h1 : b = true → A) (h2 : b = false → B) : if b = true then A else B := by
  cases b
  · rw [if_neg (by decide)]; exact h2 rfl
  · exact h1 rfl
theorem k_sq {a : Addr} {xs : List V} (h : H a = some (.lst xs)) : SqL K H a xs := Or.inl (Or.inl h)
theorem k_st {a : Addr} {xs : List V} (h : H a = some (.tup xs)) : SqT K H a xs := Or.inl (Or.inl h)
theorem k_while (W : Nat → L2.St → Hp → Prop) (m0 : Nat) (h0 : W m0 σ H)
    (hs : ∀ m σ H, W m σ H → t σ H fun b H1 => if b = true then ∃ N : L2.St → Hp → Prop, (∀ σ' H', N σ' H' → ∃ m', m' < m ∧ W m' σ' H') ∧
      t1 { D with nx := N, ct := N, bk := D.nx } σ H1 else D.nx σ H1) : tWhile t t1 D σ H := ⟨W, ⟨m0, h0⟩, hs⟩
/-- what a loop asks, by a word of its turns -/
def forK (g : TG) (tb : TS) (D : Ends) (σ : L2.St) : It → Hp → Prop := fun J H1 =>
  ∃ W : Nat → Nat → L2.St → Hp → Prop, (∃ m, W 0 m σ H1) ∧
    ∀ i m σ H, W i m σ H → (J.stop i H ∧ D.nx σ H) ∨ (J.go i H ∧
      ∃ N : L2.St → Hp → Prop, (∀ σ' H', N σ' H' → ∃ m', m' < m ∧ W (i + 1) m' σ' H') ∧
        ∀ x H', J.yld i H x H' → g x σ H' fun σ2 H2 => tb { D with nx := N, ct := N, bk := D.nx } σ2 H2)
theorem k_for {wi : TI} {g : TG} {tb : TS} (q : wi σ H (forK g tb D σ)) : tFor wi g tb D σ H := q
theorem k_rng1 {ta : TA} {R : It → Hp → Prop} (q : ta σ H fun vs H1 => ∃ j : Int, vs = [.int j] ∧
  -(2 ^ 62) ≤ j ∧ j < 2 ^ 62 ∧ R (Itr 0 j.toNat) H1) : iRng1 ta σ H R := q
theorem k_rng2 {ta : TA} {R : It → Hp → Prop} (q : ta σ H fun vs H1 => ∃ i j : Int, vs = [.int i, .int j] ∧
  (-(2 ^ 62) ≤ i ∧ i < 2 ^ 62 ∧ -(2 ^ 62) ≤ j ∧ j < 2 ^ 62) ∧ R (Itr i (j - i).toNat) H1) : iRng2 ta σ H R := q
theorem k_ilist {tl : TE} {R : It → Hp → Prop} (q : tl σ H fun x H1 => ∃ a, x = .ref a ∧
  (∃ xs, SqL K H1 a xs) ∧ R (Itl K a) H1) : iList K tl σ H R := q
theorem k_itup {tl : TE} {R : It → Hp → Prop} (q : tl σ H fun x H1 => ∃ a, x = .ref a ∧
  (∃ xs, SqT K H1 a xs) ∧ R (Itt K a) H1) : iTup K tl σ H R := q
theorem forK_range {g : TG} {tb : TS} {n : Nat} (Pv : Nat → L2.St → Hp → Prop) (h0 : Pv 0 σ H)
    (hs : ∀ (i : Nat) σ' H', i < n → Pv i σ' H' → g (.int (i : Int)) σ' H' fun σ2 H2 => tb { D with nx := Pv (i + 1), ct := Pv (i + 1), bk := D.nx } σ2 H2)
    (hd : ∀ σ' H', Pv n σ' H' → D.nx σ' H') : forK g tb D σ (Itr 0 n) H := by
  refine for_range (lo := 0) (n := n) Pv h0 (fun i σ' H' hi p => ?_) hd
  have e0 : (0 : Int) + (i : Int) = (i : Int) := Int.zero_add _
  rw [e0]
  exact hs i σ' H' hi p
theorem forK_list {g : TG} {tb : TS} {a : Addr} {xs : List V} (Pv : Nat → L2.St → Hp → Prop) (h0 : Pv 0 σ H)
    (hl : ∀ i σ' H', i ≤ xs.length → Pv i σ' H' → SqL K H' a xs)
    (hs : ∀ i x σ' H', xs[i]? = some x → Pv i σ' H' → g x σ' H' fun σ2 H2 => tb { D with nx := Pv (i + 1), ct := Pv (i + 1), bk := D.nx } σ2 H2)
    (hd : ∀ σ' H', Pv xs.length σ' H' → D.nx σ' H') : forK g tb D σ (Itl K a) H := for_list Pv h0 hl hs hd
end
section
variable {σ : L2.St} {H : Hp} {Q : VK} {ta te : TE} {K : PySem.W.Frag}
theorem k_bm {T : String} {r : V → List V → Hp → VK → Prop} {t : TA} (q : ta σ H fun x H1 => tyV K T x H1 ∧
  t σ H1 fun xs H2 => r x xs H2 Q) : tBM K T r ta t σ H Q := q
theorem k_bm0 {T : String} {r : V → List V → Hp → VK → Prop} (q : ta σ H fun x H1 => tyV K T x H1 ∧ r x [] H1 Q) : tBM0 K T r ta σ H Q := q
theorem k_tyl {l : Addr} {xs : List V} {P : Prop} (h : SqL K H l xs) (q : P) : tyV K "list" (.ref l) H ∧ P := ⟨Or.inl ⟨rfl, xs, h⟩, q⟩
theorem k_rApp {l : Addr} {xs : List V} {y : V} (h : H l = some (.lst xs)) (z : xs.length < sizeLine) (q : Q .non (upd H l (.lst (xs ++ [y])))) : rAppend (.ref l) [y] H Q := ⟨l, xs, y, rfl, rfl, h, z, q⟩
theorem k_sizeL {α : Type} {xs : List α} {f : α → V} (h : xs.length ≤ 100000) : (xs.map f).length < sizeLine := by
  rw [List.length_map]; exact Nat.lt_of_le_of_lt h (by decide)
end
section
variable {σ : L2.St} {H : Hp} {t u : TS} {D : Ends}
theorem k_cut (Mid : L2.St → Hp → Prop) (h : t { D with nx := Mid } σ H) (r : ∀ σ' H', Mid σ' H' → u D σ' H') : Evl.tCut t u D σ H := ⟨Mid, h, r⟩
end
theorem tr_step {H H' : Hp} {a : Addr} {o : HO} (e : Ex H H') (h : H a = some o) : H' a = some o := e a o h
section
variable {X : Cx} {CX : CXT} {k : Nat} {f C : Addr} {fd : FuncData} {ps : List Str} {sp : Sp} {E : XK}
/-- x op y, both instances of the class at C -/
def rMine (C : Addr) (sp : Sp) (E : XK) : R2 := fun x y H Q => ∃ a dx fs b dy gs,
  x = V.ref a ∧ y = V.ref b ∧ H a = some (HO.ins C dx fs) ∧ H b = some (HO.ins C dy gs) ∧ sp [x, y] H Q E
def rMine1 (C : Addr) (sp : Sp) (E : XK) : V → Hp → VK → Prop := fun x H Q => ∃ a dx fs,
  x = V.ref a ∧ H a = some (HO.ins C dx fs) ∧ sp [x] H Q E
theorem back_of {z : V} {u : Value} {s' : Shared} {R : Value → Shared → Prop} (r : RelV z u) (q : R u s') : PySem.W.CmpBack R u s' := by
  cases z with
  | non => cases r; exact q
  | bl b => cases r; exact q
  | int i => obtain ⟨t, rfl⟩ := r; exact q
  | str i => obtain ⟨t, rfl⟩ := r; exact q
  | byt i => obtain ⟨t, rfl⟩ := r; exact q
  | flt i => obtain ⟨t, rfl⟩ := r; exact q
  | ref a => cases r; exact q
  | ty n => cases r; exact q
theorem op_mine {op : Operator} (hc : PySem.W.selfFirst X.K C = true) (hm : Meth X.K C (PySem.dunder op.info.2) f) (F : FnOk X.prog X.w X.K X.mg X.base CX k f fd ps sp) (hr : Room k X.A) (hb : Binds X.K fd ps []) (hx : Passes CX X E) :
    OpR X (binaryOp op) (rMine C sp E) := by
  rintro pins s σ H x y v u Q I rx ry ⟨a, dx, fs, b, dy, gs, rfl, rfl, ha, hb', q⟩
  cases (show v = Value.ref a from rx)
  cases (show u = Value.ref b from ry)
  obtain ⟨mA, O, _⟩ := ins_get I.hok ha
  obtain ⟨mB, O', _⟩ := ins_get I.hok hb'
  obtain ⟨od, J, _⟩ := O.look
  obtain ⟨od', J', _⟩ := O'.look
  obtain ⟨m, hF⟩ := I.fr
  refine PySem.W.binop_K hF I.ok.mod.kin J J'.type hc hm.at_ hm.fn ?_
  refine wpAny_mono (run_fn (us := [.ref a, .ref b]) (vs := [.ref a, .ref b]) (dvs := []) (ds := []) F hr hb .nil hx I (.cons rfl (.cons rfl .nil)) q) ?_ (fun _ _ z => z)
  rintro u' s' ⟨z, H', I', rz, qz⟩
  exact back_of (R := EP X pins σ Q) rz ⟨z, H', I', rz, qz⟩
theorem un_mine (hm : Meth X.K C "__neg__" f) (F : FnOk X.prog X.w X.K X.mg X.base CX k f fd ps sp) (hr : Room k X.A) (hb : Binds X.K fd ps []) (hx : Passes CX X E) :
    UnR X (unaryOp .USub) (rMine1 C sp E) := by
  rintro pins s σ H x v Q I rx ⟨a, dx, fs, rfl, ha, q⟩
  cases (show v = Value.ref a from rx)
  obtain ⟨mA, O, _⟩ := ins_get I.hok ha
  obtain ⟨od, J, _⟩ := O.look
  obtain ⟨m, hF⟩ := I.fr
  refine PySem.W.ksp_neg hF I.ok.mod.kin J hm.at_ hm.fn ?_
  exact run_fn (us := [.ref a]) (vs := [.ref a]) (dvs := []) (ds := []) F hr hb .nil hx I (.cons rfl .nil) q
end
/-! small facts -/
theorem get_int {ns : List Int} {i : Nat} {y : V} (h : (ns.map V.int)[i]? = some y) : ∃ z, ns[i]? = some z ∧ y = .int z := by
  rw [List.getElem?_map] at h
  cases e : ns[i]? with
  | none => rw [e] at h; cases h
  | some z => rw [e] at h; exact ⟨z, rfl, (Option.some.inj h).symm⟩
theorem at_int {ns : List Int} {k : Int} (h0 : 0 ≤ k) (h1 : k < ns.length) : ∃ z, ns[k.toNat]? = some z ∧ atI (ns.map V.int) k = some (.int z) := by
  have hk : k.toNat < ns.length := by omega
  refine ⟨ns[k.toNat], by simp [hk], ?_⟩
  have e : ((k.toNat : Nat) : Int) = k := by omega
  have z : atI (ns.map V.int) ((k.toNat : Nat) : Int) = some (V.int ns[k.toNat]) := atI_nat (by simp [hk])
  rw [e] at z
  exact z
theorem ex_of {H H' : Hp} (e : H' = H) : Ex H H' := by rw [e]; exact Evl.Ex.refl H
theorem ex_upd {H : Hp} {p : Addr} {o : HO} (h : H p = none) : Ex H (upd H p o) := Evl.Ex.new h
theorem two_le : ∀ a b : V, [a, b].length ≤ sizeLine := fun _ _ => by show 2 ≤ sizeLine; decide
end Mine
namespace Mine
open PySem PySem.Spec PyProof.Rows L2
open PySem.W (Frag)
/-! the facts of the head: a list of tests of the written part, and the defs -/
def obsM (fs : List (Frag → Bool)) (fn : List He5.DefA) (K : Frag) : He.AlD :=
  ((fs.all fun f => f K) && fn.all fun d => d.ok K, fn.map fun d => He5.fnA K (d.at_ K))
def SaysM (fs : List (Frag → Bool)) (fn : List He5.DefA) (K : Frag) : Prop := obsM fs fn K = He5.valA fn
def obsMG (n : Nat) (fs : List (Frag → Bool)) (fn : List He5.DefA) (g : Addr → Option Obj) : He.AlD := obsM fs fn (He.frG g (He5.asA g n))
def hookM (n : Nat) (fs : List (Frag → Bool)) (fn : List He5.DefA) : PySem.W.Hook where
  α := He.AlD
  obs s := obsMG n fs fn s.heap.get?
  val _ := He5.valA fn
  says _ h := ∃ K : Frag, K.In h ∧ SaysM fs fn K
  of _ _ e := ⟨_, He.frG_in, e⟩
  keeps _ _ _ := fun ⟨K, hK, c⟩ k => ⟨K, PySem.W.Frag.In.keeps hK k, c⟩
theorem obsMG_eq {n : Nat} {fs : List (Frag → Bool)} {fn : List He5.DefA} {g : Addr → Option Obj} {s : Shared} (h : ∀ a, g a = s.heap.get? a) :
    obsMG n fs fn g = (hookM n fs fn).obs s := by
  have e : g = s.heap.get? := funext h
  subst e
  rfl
theorem SaysM.fact {fs : List (Frag → Bool)} {fn : List He5.DefA} {K : Frag} (c : SaysM fs fn K) (i : Nat) {f : Frag → Bool} (h : fs[i]? = some f) : f K = true := by
  have c1 : ((fs.all fun f => f K) && fn.all fun d => d.ok K) = true := congrArg (fun z : He.AlD => z.1) c
  exact List.all_eq_true.mp (Bool.and_eq_true_iff.mp c1).1 f (List.mem_of_getElem? h)
theorem SaysM.dfn {fs : List (Frag → Bool)} {fn : List He5.DefA} {K : Frag} (c : SaysM fs fn K) (i : Nat) {d : He5.DefA} (h : fn[i]? = some d) :
    ∃ fd, FunD K d.name d.qual d.params d.body d.scope (d.dvs K) (d.kws K) (d.at_ K) fd := by
  have c1 : ((fs.all fun f => f K) && fn.all fun d => d.ok K) = true := congrArg (fun z : He.AlD => z.1) c
  have c2 := List.all_eq_true.mp (Bool.and_eq_true_iff.mp c1).2 d (List.mem_of_getElem? h)
  have e : (fn.map fun d => He5.fnA K (d.at_ K)) = fn.map He5.DefA.val := congrArg (fun z : He.AlD => z.2) c
  have e2 := congrArg (fun l => l[i]?) e
  simp only [List.getElem?_map, h, Option.map_some, Option.some.injEq] at e2
  exact He5.DefA.funD e2 c2
end Mine
namespace Mine
open PySem PySem.Spec PyProof.Rows L2
theorem fd_same {K : PySem.W.Frag} {x q x' q' : Str} {a a' : Arguments} {b b' : List Stmt} {c c' : Scope} {d d' : List V} {k k' : List (Str × V)} {f : Addr} {fd fd' : FuncData} (F : FunD K x q a b c d k f fd) (G : FunD K x' q' a' b' c' d' k' f fd') : fd = fd' := by
  obtain ⟨_, _, _, _, _, _, _, _, _, _, _, l, _⟩ := F.ex
  obtain ⟨_, _, _, _, _, _, _, _, _, _, _, l', _⟩ := G.ex
  have e := Option.some.inj (l.symm.trans l')
  injection e with _ _ e
  injection e
end Mine
namespace Mine
open PySem PySem.Spec PyProof.Rows L2
def propG (K : PySem.W.Frag) (C f : Str) : Addr := match PySem.W.recIn K (He.ma K (He.ga K C) f) "property" with
  | some (.ref g :: _) => g
  | _ => 0
def propB (K : PySem.W.Frag) (C f : Str) : Bool :=
  He.eqO (PySem.W.findIn K (.ref (He.ga K C)) f) (some (some (.ref (He.ma K (He.ga K C) f)))) &&
  (He.eqO (PySem.W.specialIn K (.ref (He.ma K (He.ga K C) f)) "__get__") (some (some (.builtin "property.__get__"))) &&
  (decide (PySem.W.takesIn K (.ref (He.ma K (He.ga K C) f)) = some true) &&
  match PySem.W.recIn K (He.ma K (He.ga K C) f) "property" with
  | some (.ref _ :: _) => true
  | _ => false))
theorem prop_ok {K : PySem.W.Frag} {C f : Str} (h : propB K C f = true) : PropOf K (He.ga K C) f (He.ma K (He.ga K C) f) (propG K C f) := by
  unfold propB at h
  rw [Bool.and_eq_true, Bool.and_eq_true, Bool.and_eq_true] at h
  obtain ⟨h1, h2, h3, h4⟩ := h
  refine ⟨He.eqO_ok h1, He.eqO_ok h2, of_decide_eq_true h3, ?_⟩
  unfold propG
  split at h4
  · rename_i g rest e
    rw [e]; exact ⟨_, rfl⟩
  · cases h4
def inscB (K : PySem.W.Frag) (C : Str) : Bool :=
  (He.Fa.cls C).ok K && (He.eqO (PySem.W.findIn K (.ref (He.ga K C)) "__class__") (some (some (.builtin "object.__class__"))) &&
  (He.eqO (PySem.W.specialIn K (.builtin "object.__class__") "__get__") (some (some (.builtin "getset_descriptor.__get__"))) &&
  (decide (PySem.W.takesIn K (.builtin "object.__class__") = some true) && (decide (PySem.W.mroIn K (He.ga K C) (.type "object") = some true) &&
  decide (PySem.W.kitOne K (.ref (He.ga K C)) (.ref (He.ga K C)) = some true)))))
theorem insc_ok {K : PySem.W.Frag} {C : Str} (h : inscB K C = true) : C8.InsC K (He.ga K C) := by
  unfold inscB at h
  rw [Bool.and_eq_true, Bool.and_eq_true, Bool.and_eq_true, Bool.and_eq_true, Bool.and_eq_true] at h
  obtain ⟨h1, h2, h3, h4, h5, h6⟩ := h
  exact ⟨He.cls_ok h1, He.eqO_ok h2, He.eqO_ok h3, of_decide_eq_true h4, of_decide_eq_true h5, of_decide_eq_true h6⟩
end Mine
namespace Mine
open PySem PySem.Spec PyProof.Rows L2
open PySem.W (Frag)
/-! dicts, tuples and texts of the program's head -/
/-- d[k], d a dict of the head with texts as keys -/
def rKD (K : Frag) (d : Addr) : R2 := fun x y H Q => ∃ z u0 v0, x = .ref d ∧ y = .str z ∧ PySem.W.nsIn K d z = some (some u0) ∧ RelV v0 u0 ∧ Q v0 H
theorem ix_kd {X : Cx} {d : Addr} (D : ∃ es n, KDict X.K X.w d es n) : IxR X (rKD X.K d) := by
  obtain ⟨es, n, D⟩ := D
  rintro value slice pins s σ H x y v u Q I rx ry ⟨z, u0, v0, rfl, rfl, h1, h2, q⟩ hs
  have e : v = .ref d := rx
  subst e
  exact tail_any (T := "dict") (kd_type D I) F.slot_dict_getitem.lookup (op_item_kd D pins s σ H (.ref d) (.str z) (.ref d) u Q I rx ry ⟨z, u0, v0, rfl, rfl, h1, h2, q⟩) hs
/-- the items of a tuple of the head -/
def valsL : List V → List Value → Bool
  | [], [] => true
  | x :: xs, u :: us => He.relB x u && valsL xs us
  | _, _ => false
theorem valsL_ok : ∀ {xs : List V} {us : List Value}, valsL xs us = true → Vals xs us
  | [], [], _ => .nil
  | x :: xs, u :: us, h => by
    have h' : (He.relB x u && valsL xs us) = true := h
    rw [Bool.and_eq_true] at h'
    exact .cons (He.relB_ok h'.1) (valsL_ok h'.2)
  | [], _ :: _, h => by cases h
  | _ :: _, [], h => by cases h
def tupB (K : Frag) (a : Addr) (xs : List V) : Bool := match K.lookup a with
  | some ⟨cls, _, .seq its _, _⟩ => decide (cls = .type "tuple") && (decide (its.size ≤ 1000) && valsL xs its.toList)
  | _ => false
theorem tupB_ok {K : Frag} {a : Addr} {xs : List V} (h : tupB K a xs = true) (H : Hp) : SqT K H a xs := by
  unfold tupB at h
  split at h
  · rename_i cls dd its n sl e
    rw [Bool.and_eq_true, Bool.and_eq_true] at h
    exact Or.inr ⟨_, its, n, e, of_decide_eq_true h.1, rfl, Nat.le_trans (of_decide_eq_true h.2.1) (by decide), valsL_ok h.2.2⟩
  · cases h
/-- the tuple behind a key of a dict of the head -/
def kdA (K : Frag) (d k : Str) : Addr := match PySem.W.nsIn K (He.ga K d) k with
  | some (some (.ref a)) => a
  | _ => 0
def kdB (K : Frag) (d k : Str) (xs : List V) : Bool := match PySem.W.nsIn K (He.ga K d) k with
  | some (some (.ref a)) => tupB K a xs
  | _ => false
theorem kdB_ok {K : Frag} {d k : Str} {xs : List V} (h : kdB K d k xs = true) : PySem.W.nsIn K (He.ga K d) k = some (some (.ref (kdA K d k))) ∧ ∀ H, SqT K H (kdA K d k) xs := by
  unfold kdB at h
  unfold kdA
  split at h
  · rename_i a e
    rw [e]
    exact ⟨rfl, tupB_ok h⟩
  · cases h
theorem k_kd {K : Frag} {d k : Str} {xs : List V} {H : Hp} {Q : VK} (h : PySem.W.nsIn K (He.ga K d) k = some (some (.ref (kdA K d k))) ∧ ∀ H, SqT K H (kdA K d k) xs) (q : Q (.ref (kdA K d k)) H) : rKD K (He.ga K d) (.ref (He.ga K d)) (.str k) H Q :=
  ⟨k, _, .ref _, rfl, rfl, h.1, rfl, q⟩
theorem cst_okS {X : Cx} {x : Str} {z : Str} (h : ∃ t, X.mg x = some (.str z t)) : ∃ u, X.mg x = some u ∧ RelV (.str z) u :=
  let ⟨t, h⟩ := h; ⟨_, h, t, rfl⟩
/-! the head's facts with dicts -/
abbrev AlM : Type := He.AlD × List (Option (List (Option (Str × Int))))
def obsMT (fs : List (Frag → Bool)) (fn : List He5.DefA) (ts : List He.Tab) (K : Frag) : AlM := (obsM fs fn K, ts.map fun t => He.dicW K (t.1 K))
def valMT (fn : List He5.DefA) (ts : List He.Tab) (w : World) : AlM := (He5.valA fn, ts.map fun t => some (He.keysIn w.params t.2))
def SaysMT (fs : List (Frag → Bool)) (fn : List He5.DefA) (ts : List He.Tab) (w : World) (K : Frag) : Prop := obsMT fs fn ts K = valMT fn ts w
def obsMTG (n : Nat) (fs : List (Frag → Bool)) (fn : List He5.DefA) (ts : List He.Tab) (g : Addr → Option Obj) : AlM := obsMT fs fn ts (He.frG g (He5.asA g n))
@[reducible] def hookMT (n : Nat) (fs : List (Frag → Bool)) (fn : List He5.DefA) (ts : List He.Tab) : PySem.W.Hook where
  α := AlM
  obs s := obsMTG n fs fn ts s.heap.get?
  val w := valMT fn ts w
  says w h := ∃ K : Frag, K.In h ∧ SaysMT fs fn ts w K
  of _ _ e := ⟨_, He.frG_in, e⟩
  keeps _ _ _ := fun ⟨K, hK, c⟩ k => ⟨K, PySem.W.Frag.In.keeps hK k, c⟩
theorem obsMTG_eq {n : Nat} {fs : List (Frag → Bool)} {fn : List He5.DefA} {ts : List He.Tab} {g : Addr → Option Obj} {s : Shared} (h : ∀ a, g a = s.heap.get? a) :
    obsMTG n fs fn ts g = (hookMT n fs fn ts).obs s := by
  have e : g = s.heap.get? := funext h
  subst e
  rfl
theorem SaysMT.m {fs : List (Frag → Bool)} {fn : List He5.DefA} {ts : List He.Tab} {w : World} {K : Frag} (c : SaysMT fs fn ts w K) : SaysM fs fn K := congrArg (fun z : AlM => z.1) c
theorem SaysMT.tab {fs : List (Frag → Bool)} {fn : List He5.DefA} {ts : List He.Tab} {w : World} {K : Frag} (c : SaysMT fs fn ts w K) (i : Nat) {t : He.Tab} (h : ts[i]? = some t) : ∃ es n, KDict K w (t.1 K) es n := by
  have e := congrArg (fun z : AlM => z.2[i]?) c
  have e2 : (ts.map fun t => He.dicW K (t.1 K))[i]? = (ts.map fun t => some (He.keysIn w.params t.2))[i]? := e
  simp only [List.getElem?_map, h, Option.map_some, Option.some.injEq] at e2
  exact He.dicW_ok e2
end Mine
namespace Mine
open PySem PySem.Spec PyProof.Rows L2
open PySem.W (Frag)
/-! the hook at a written list of addresses: no walk over the heap -/
def obsLG (as : List Addr) (fs : List (Frag → Bool)) (fn : List He5.DefA) (g : Addr → Option Obj) : He.AlD := obsM fs fn (He.frG g as)
def hookL (as : List Addr) (fs : List (Frag → Bool)) (fn : List He5.DefA) : PySem.W.Hook where
  α := He.AlD
  obs s := obsLG as fs fn s.heap.get?
  val _ := He5.valA fn
  says _ h := ∃ K : Frag, K.In h ∧ SaysM fs fn K
  of _ _ e := ⟨_, He.frG_in, e⟩
  keeps _ _ _ := fun ⟨K, hK, c⟩ k => ⟨K, PySem.W.Frag.In.keeps hK k, c⟩
theorem obsLG_eq {as : List Addr} {fs : List (Frag → Bool)} {fn : List He5.DefA} {g : Addr → Option Obj} {s : Shared} (h : ∀ a, g a = s.heap.get? a) :
    obsLG as fs fn g = (hookL as fs fn).obs s := by
  have e : g = s.heap.get? := funext h
  subst e
  rfl
def obsLTG (as : List Addr) (fs : List (Frag → Bool)) (fn : List He5.DefA) (ts : List He.Tab) (g : Addr → Option Obj) : AlM := obsMT fs fn ts (He.frG g as)
@[reducible] def hookLT (as : List Addr) (fs : List (Frag → Bool)) (fn : List He5.DefA) (ts : List He.Tab) : PySem.W.Hook where
  α := AlM
  obs s := obsLTG as fs fn ts s.heap.get?
  val w := valMT fn ts w
  says w h := ∃ K : Frag, K.In h ∧ SaysMT fs fn ts w K
  of _ _ e := ⟨_, He.frG_in, e⟩
  keeps _ _ _ := fun ⟨K, hK, c⟩ k => ⟨K, PySem.W.Frag.In.keeps hK k, c⟩
theorem obsLTG_eq {as : List Addr} {fs : List (Frag → Bool)} {fn : List He5.DefA} {ts : List He.Tab} {g : Addr → Option Obj} {s : Shared} (h : ∀ a, g a = s.heap.get? a) :
    obsLTG as fs fn ts g = (hookLT as fs fn ts).obs s := by
  have e : g = s.heap.get? := funext h
  subst e
  rfl
end Mine
namespace Mine
open PySem PySem.Spec PyProof.Rows L2
open Evl (Ex)
/-! a part that is read under a condition on the error -/
def tWhen (p : Prop) (t : TS) : TS := fun D σ H => p ∧ t D σ H
theorem pss_when {X : Cx} {b : List Stmt} {p : Prop} {t : TS} (h : p → PSs X b t) : PSs X b (tWhen p t) :=
  ⟨fun pins s σ H D I q => (h q.1).run pins s σ H D I q.2⟩
theorem zc_at {cls c : Value} {d : Option Addr} {oe : Obj} (h : cls = c ∧ d = none) (z : Zc cls d oe) : Zc c none oe := by
  obtain ⟨rfl, rfl⟩ := h
  exact z
/-- try: body except c as (slot i): suite -/
def tTryAs (K : PySem.W.Frag) (c : Value) (i : Nat) (tb : WX → TS) (ts : Addr → Value → Option Addr → TS) : TS := fun D σ H => tb (wAs K c i ts (fun _ _ _ _ => False) D) D σ H
theorem k_isE {K : PySem.W.Frag} {D a : Addr} {c : V} {cv : Value} {b : Bool} {H : Hp} {Q : VK} (h : PySem.W.kitOne K (.ref D) cv = some b) (hc : ∀ u, RelV c u → u = cv) (q : Q (.bl b) H) : rIsE K D a [.ref a, c] H Q :=
  ⟨c, cv, b, rfl, hc, h, q⟩
theorem rel_ref {c : Addr} : ∀ u, RelV (.ref c) u → u = .ref c := fun _ h => h
theorem rel_ty {n : String} : ∀ u, RelV (.ty n) u → u = .type n := fun _ h => h
/-- C(e, ..) where its __init__ may raise, at the slots -/
def tMakeS (C : Addr) (sp : Sp) (dvs : List V) (E : L2.St → XK) (t : TA) : TE := fun σ H Q => t σ H fun vs H1 => ∀ x dx, H1 x = none → H1 dx = none → dx ≠ x → sp (.ref x :: (vs ++ dvs)) (upd (upd H1 dx (.own x)) x (.ins C dx [])) (fun v H2 => v = .non ∧ Q (.ref x) H2) (E σ)
section
variable {X : Cx} {CX : CXT} {k : Nat} {f C : Addr} {fd : FuncData} {ps : List Str} {sp : Sp} {E : L2.St → XK} {dvs : List V} {ds : List Value} {x : Str} {p pos : Pos} {e : Expr} {es : List Expr} {t : TA}
theorem pe_makeS (M : Mk X.K C f) (F : FnOk X.prog X.w X.K X.mg X.base CX k f fd ps sp) (hr : Room (k + 1) X.A) (hg : Gl X x) (hm : X.mg x = some (.ref C)) (hb : Binds X.K fd ps ds) (hd : Vals dvs ds) (hx : ∀ σ, PassesAt CX X σ (E σ))
    (ha : PA X (e :: es) t) (hdb : (x == ("__debug__" : Str)) = false := by decide) (he : starEach (e :: es) X.env = (false, eval e X.env) :: starEach es X.env := by rfl) (hpl : (backTo pos (starEach es X.env)).any (·.1) = false := by rfl) :
    PE X (.Call (.Name x p) (e :: es) [] pos) (tMakeS C sp dvs E t) := by
  constructor
  intro pins s σ H Q I h
  refine wpAny_Call_Name_kw (ld_glob I hg hm ?_ hdb)
  refine PySem.W.callWith_K (h₀ := X.base) I.ok.mod.kin M.kp ?_ he hpl
  refine thn (ha.run pos pins s σ H _ I h) ?_
  rintro us s1 ⟨vs, H1, I1, r, q⟩
  refine ⟨I1.kIn, ?_⟩
  have q1 := q (s1.heap.objs.size + 1) s1.heap.objs.size (I1.hok.fresh (Nat.le_succ _)) (I1.hok.fresh (Nat.le_refl _)) (Nat.ne_of_lt (Nat.lt_succ_self _))
  have J := Inv.made (C := C) I1
  have rr : Vals (V.ref (s1.heap.objs.size + 1) :: (vs ++ dvs)) (Value.ref (s1.heap.objs.size + 1) :: (us ++ ds)) := .cons rfl (r.append hd)
  have hl : (Value.ref (s1.heap.objs.size + 1) :: us ++ ds).length = ps.length := by
    rw [← F.len _ _ _ _ q1]; exact rr.length.symm
  refine wpAny_call (make_map (f := f) I1.kIn M.makes M.init (beq_iff_eq.mp M.fn) (codeAny_mono (F.run _ X.stack _ _ ⟨Value.ref (s1.heap.objs.size + 1) :: us, []⟩ (Value.ref (s1.heap.objs.size + 1) :: (us ++ ds)) _ _ (E σ) (hr.make C us [])
    (J.env0.make C us []) (hb _ (Value.ref (s1.heap.objs.size + 1) :: us) J.kIn hl) rr q1) ?_))
  rintro (er | fl) s' hq
  · exact hx σ pins _ _ er s' J hq
  · cases fl with
    | ret u =>
      obtain ⟨v, H', I3, rv, ev, q3⟩ := J.after hq
      subst ev
      exact ⟨rv, ⟨V.ref (s1.heap.objs.size + 1), H', I3, rfl, q3⟩⟩
    | next => exact False.elim hq
    | brk => exact False.elim hq
    | cont => exact False.elim hq
end
open PySem.W (Frag)
def excCB (K : Frag) (C : Str) : Bool :=
  He.eqO (PySem.W.findIn K (.ref (He.ga K C)) "__getattribute__") (some (some (.builtin "BaseException.__getattribute__"))) &&
  (decide (PySem.W.findIn K (.ref (He.ga K C)) "__getattr__" = some none) &&
  (decide (PySem.W.subIn K (.ref (He.ga K C)) (.type "BaseException") = some true) &&
  (decide (PySem.W.hasDictIn K (He.ga K C) = true) &&
  (He.eqO (PySem.W.findIn K (.ref (He.ga K C)) "__class__") (some (some (.builtin "object.__class__"))) &&
  (He.eqO (PySem.W.specialIn K (.builtin "object.__class__") "__get__") (some (some (.builtin "getset_descriptor.__get__"))) &&
  (decide (PySem.W.takesIn K (.builtin "object.__class__") = some true) && decide (PySem.W.mroIn K (He.ga K C) (.type "object") = some true)))))))
theorem excC_ok {K : Frag} {C : Str} (h : excCB K C = true) : ExcC K (He.ga K C) := by
  unfold excCB at h
  rw [Bool.and_eq_true, Bool.and_eq_true, Bool.and_eq_true, Bool.and_eq_true, Bool.and_eq_true, Bool.and_eq_true, Bool.and_eq_true] at h
  obtain ⟨h1, h2, h3, h4, h5, h6, h7, h8⟩ := h
  exact ⟨He.eqO_ok h1, of_decide_eq_true h2, of_decide_eq_true h3, of_decide_eq_true h4, He.eqO_ok h5, He.eqO_ok h6, of_decide_eq_true h7, of_decide_eq_true h8⟩
/-- what the errors' classes say of BadValue -/
structure FBadValue (K : Frag) : Prop where
  ex : PySem.W.exmOne K (.ref (He.ga K "BadValue")) (.ref (He.ga K "PlayError")) = some true
  k1 : PySem.W.kitOne K (.ref (He.ga K "BadValue")) (.ref (He.ga K "BadText")) = some false
  k2 : PySem.W.kitOne K (.ref (He.ga K "BadValue")) (.ref (He.ga K "NoMove")) = some false
  k3 : PySem.W.kitOne K (.ref (He.ga K "BadValue")) (.ref (He.ga K "Unknown")) = some false
  k4 : PySem.W.kitOne K (.ref (He.ga K "BadValue")) (.ref (He.ga K "BadValue")) = some true
  k5 : PySem.W.kitOne K (.ref (He.ga K "BadValue")) (.type "ValueError") = some true
end Mine
namespace Mine
open PySem PySem.Spec PyProof.Rows L2
open Evl (Ex)
section
variable {σ : L2.St} {H : Hp} {Q : VK} {K : PySem.W.Frag} {D : Ends}
theorem k_tryAs {c : Value} {i : Nat} {tb : WX → TS} {ts : Addr → Value → Option Addr → TS} (q : tb (wAs K c i ts (fun _ _ _ _ => False) D) D σ H) : tTryAs K c i tb ts D σ H := q
theorem k_makeS {C : Addr} {sp : Sp} {dvs : List V} {E : L2.St → XK} {t : TA} (q : t σ H fun vs H1 => ∀ x dx, H1 x = none → H1 dx = none → dx ≠ x → sp (.ref x :: (vs ++ dvs)) (upd (upd H1 dx (.own x)) x (.ins C dx [])) (fun v H2 => v = .non ∧ Q (.ref x) H2) (E σ)) : tMakeS C sp dvs E t σ H Q := q
theorem k_callSD {sp : Sp} {dvs : List V} {E : L2.St → XK} {t : TA} (q : t σ H fun vs H1 => sp (vs ++ dvs) H1 Q (E σ)) : tCallSD sp dvs E t σ H Q := q
theorem k_when {p : Prop} {t : TS} (h : p) (q : t D σ H) : tWhen p t D σ H := ⟨h, q⟩
/-- the suite is reached -/
theorem k_wAs {cls : Value} {c : Value} {i : Nat} {d : Option Addr} {ts : Addr → Value → Option Addr → TS} {Wout : WX} (e : PySem.W.exmOne K cls c = some true)
    (q : ∀ a, H a = none → ts a cls d { nx := fun σ' H' => D.nx (σ'.set i none) H', rt := D.rt, bk := fun σ' H' => D.bk (σ'.set i none) H', ct := fun σ' H' => D.ct (σ'.set i none) H' } (σ.set i (some (.ref a))) H) : WE (wAs K c i ts Wout D) σ cls d H :=
  ⟨true, e, fun _ => q, fun z => Bool.noConfusion z⟩
theorem TyB.ex {H H' : Hp} {x : V} {T : String} (t : TyB K H x T) (e : Ex H H') : TyB K H' x T := by
  cases t
  case lst h => exact .lst (Evl.ex_l e h)
  case tup h => exact .tup (Evl.ex_t e h)
  case dK h => exact .dK (e _ _ h)
  all_goals constructor
end
/-! keywords -/
def gKA {α : Type} (us ds zs : List α) : List α := us ++ (zs ++ ds)
def gKB {α : Type} (us _ zs : List α) : List α := us ++ zs
def gKC {α : Type} (us _ zs : List α) : List α := us ++ zs.reverse
theorem vals_rev {vs : List V} {us : List Value} (r : Vals vs us) : Vals vs.reverse us.reverse := by
  induction r with
  | nil => exact .nil
  | cons h _ ih => rw [List.reverse_cons, List.reverse_cons]; exact ih.append (.cons h .nil)
theorem gKA_rel {vs ds zs : List V} {us its ws : List Value} (r : Vals vs us) (rd : Vals ds its) (rz : Vals zs ws) : Vals (gKA vs ds zs) (gKA us its ws) := r.append (rz.append rd)
theorem gKB_rel {vs ds zs : List V} {us its ws : List Value} (r : Vals vs us) (_ : Vals ds its) (rz : Vals zs ws) : Vals (gKB vs ds zs) (gKB us its ws) := r.append rz
theorem gKC_rel {vs ds zs : List V} {us its ws : List Value} (r : Vals vs us) (_ : Vals ds its) (rz : Vals zs ws) : Vals (gKC vs ds zs) (gKC us its ws) := r.append (vals_rev rz)
end Mine
namespace Mine
open PySem PySem.W
/-! a world whose one asked flag is written: the top's run in both cases -/
noncomputable def setF (w : World) (b : Bool) : World := { w with params := { w.params with followText := fun s => (Bool.rec (w.params.followText s) b (decide (s = "special-get-raises")) : Bool) } }
theorem setF_eq (w : World) : setF w (w.params.followText "special-get-raises") = w := by
  have e : (fun s => (Bool.rec (w.params.followText s) (w.params.followText "special-get-raises") (decide (s = "special-get-raises")) : Bool)) = w.params.followText := by
    funext s
    cases q : decide (s = "special-get-raises") with
    | false => rfl
    | true => rw [of_decide_eq_true q]
  unfold setF
  rw [e]
theorem bothF {p : World → Prop} (h0 : ∀ w, p (setF w false)) (h1 : ∀ w, p (setF w true)) (w : World) : p w := by
  rw [← setF_eq w]
  cases w.params.followText "special-get-raises"
  · exact h0 w
  · exact h1 w
end Mine
namespace Mine.Hd
open PySem PySem.Spec PyProof.Rows L2
open Evl (Ex)
def top (i : Nat) : Stmt := PySem.Challenge.pw_sumsplay_k73_matches_played.main.body.getD i (.Pass ⟨0, 0, 0, 0⟩)
abbrev s_law_tape : Stmt := top 55
abbrev ad_law_tape (K : PySem.W.Frag) : Addr := He.ga K "_law_tape"
abbrev s_is_board : Stmt := top 45
abbrev ad_is_board (K : PySem.W.Frag) : Addr := He.ga K "is_board"
abbrev s_Meeting_d_init : Stmt := inClass (top 48) 0
abbrev ad_Meeting_d_init (K : PySem.W.Frag) : Addr := He.ma K (He.ga K "Meeting") "__init__"
abbrev s_law_draw : Stmt := top 56
abbrev ad_law_draw (K : PySem.W.Frag) : Addr := He.ga K "_law_draw"
abbrev s_is_whole : Stmt := top 8
abbrev ad_is_whole (K : PySem.W.Frag) : Addr := He.ga K "is_whole"
abbrev s_Heaps_d_init : Stmt := inClass (top 30) 0
abbrev ad_Heaps_d_init (K : PySem.W.Frag) : Addr := He.ma K (He.ga K "Heaps") "__init__"
abbrev s_law_heaps : Stmt := top 57
abbrev ad_law_heaps (K : PySem.W.Frag) : Addr := He.ga K "_law_heaps"
abbrev s_check_edge : Stmt := top 38
abbrev ad_check_edge (K : PySem.W.Frag) : Addr := He.ga K "_check_edge"
abbrev s_reached : Stmt := top 39
abbrev ad_reached (K : PySem.W.Frag) : Addr := He.ga K "_reached"
abbrev s_Hedge_d_init : Stmt := inClass (top 37) 0
abbrev ad_Hedge_d_init (K : PySem.W.Frag) : Addr := He.ma K (He.ga K "Hedge") "__init__"
abbrev s_law_hedge : Stmt := top 58
abbrev ad_law_hedge (K : PySem.W.Frag) : Addr := He.ga K "_law_hedge"
abbrev s_Floor_d_init : Stmt := inClass (top 20) 0
abbrev ad_Floor_d_init (K : PySem.W.Frag) : Addr := He.ma K (He.ga K "Floor") "__init__"
abbrev s_law_floor : Stmt := top 59
abbrev ad_law_floor (K : PySem.W.Frag) : Addr := He.ga K "_law_floor"
abbrev s_Frogs_d_init : Stmt := inClass (top 26) 0
abbrev ad_Frogs_d_init (K : PySem.W.Frag) : Addr := He.ma K (He.ga K "Frogs") "__init__"
abbrev s_law_frogs : Stmt := top 60
abbrev ad_law_frogs (K : PySem.W.Frag) : Addr := He.ga K "_law_frogs"
abbrev s_check_cake : Stmt := top 13
abbrev ad_check_cake (K : PySem.W.Frag) : Addr := He.ga K "_check_cake"
abbrev s_Cakes_d_init : Stmt := inClass (top 12) 0
abbrev ad_Cakes_d_init (K : PySem.W.Frag) : Addr := He.ma K (He.ga K "Cakes") "__init__"
abbrev s_law_cakes : Stmt := top 61
abbrev ad_law_cakes (K : PySem.W.Frag) : Addr := He.ga K "_law_cakes"
abbrev s_check_row : Stmt := top 43
abbrev ad_check_row (K : PySem.W.Frag) : Addr := He.ga K "_check_row"
abbrev s_Table_d_init : Stmt := inClass (top 42) 0
abbrev ad_Table_d_init (K : PySem.W.Frag) : Addr := He.ma K (He.ga K "Table") "__init__"
abbrev s_law_table : Stmt := top 62
abbrev ad_law_table (K : PySem.W.Frag) : Addr := He.ga K "_law_table"
abbrev s_law_board : Stmt := top 63
abbrev ad_law_board (K : PySem.W.Frag) : Addr := He.ga K "_law_board"
abbrev s_Match_d_init : Stmt := inClass (top 53) 0
abbrev ad_Match_d_init (K : PySem.W.Frag) : Addr := He.ma K (He.ga K "Match") "__init__"
abbrev s_law_bad_side : Stmt := top 65
abbrev ad_law_bad_side (K : PySem.W.Frag) : Addr := He.ga K "_law_bad_side"
abbrev s_Heaps_m_moves : Stmt := inClass (top 30) 1
abbrev ad_Heaps_m_moves (K : PySem.W.Frag) : Addr := He.ma K (He.ga K "Heaps") "moves"
abbrev s_Hedge_m_value : Stmt := inClass (top 37) 2
abbrev ad_Hedge_m_value (K : PySem.W.Frag) : Addr := He.ma K (He.ga K "Hedge") "value"
abbrev s_Hedge_m_moves : Stmt := inClass (top 37) 1
abbrev ad_Hedge_m_moves (K : PySem.W.Frag) : Addr := He.ma K (He.ga K "Hedge") "moves"
abbrev s_Floor_p_cells : Stmt := inClass (top 20) 4
abbrev ad_Floor_p_cells (K : PySem.W.Frag) : Addr := He.ma K (He.ga K "Floor") "_cells"
abbrev s_Floor_p_is_free : Stmt := inClass (top 20) 5
abbrev ad_Floor_p_is_free (K : PySem.W.Frag) : Addr := He.ma K (He.ga K "Floor") "_is_free"
abbrev s_Floor_p_covered : Stmt := inClass (top 20) 6
abbrev ad_Floor_p_covered (K : PySem.W.Frag) : Addr := He.ma K (He.ga K "Floor") "_covered"
abbrev s_Floor_m_moves : Stmt := inClass (top 20) 1
abbrev ad_Floor_m_moves (K : PySem.W.Frag) : Addr := He.ma K (He.ga K "Floor") "moves"
abbrev s_Frogs_p_sign : Stmt := inClass (top 26) 5
abbrev ad_Frogs_p_sign (K : PySem.W.Frag) : Addr := He.ma K (He.ga K "Frogs") "_sign"
abbrev s_Frogs_p_target : Stmt := inClass (top 26) 4
abbrev ad_Frogs_p_target (K : PySem.W.Frag) : Addr := He.ma K (He.ga K "Frogs") "_target"
abbrev s_Frogs_p_moved : Stmt := inClass (top 26) 6
abbrev ad_Frogs_p_moved (K : PySem.W.Frag) : Addr := He.ma K (He.ga K "Frogs") "_moved"
abbrev s_Frogs_m_moves : Stmt := inClass (top 26) 1
abbrev ad_Frogs_m_moves (K : PySem.W.Frag) : Addr := He.ma K (He.ga K "Frogs") "moves"
abbrev s_cuts : Stmt := top 14
abbrev ad_cuts (K : PySem.W.Frag) : Addr := He.ga K "_cuts"
abbrev s_Cakes_m_moves : Stmt := inClass (top 12) 1
abbrev ad_Cakes_m_moves (K : PySem.W.Frag) : Addr := He.ma K (He.ga K "Cakes") "moves"
abbrev s_Table_p_moved : Stmt := inClass (top 42) 4
abbrev ad_Table_p_moved (K : PySem.W.Frag) : Addr := He.ma K (He.ga K "Table") "_moved"
abbrev s_Table_m_moves : Stmt := inClass (top 42) 1
abbrev ad_Table_m_moves (K : PySem.W.Frag) : Addr := He.ma K (He.ga K "Table") "moves"
abbrev s_Meeting_m_moves : Stmt := inClass (top 48) 2
abbrev ad_Meeting_m_moves (K : PySem.W.Frag) : Addr := He.ma K (He.ga K "Meeting") "moves"
abbrev s_Match_m_back : Stmt := inClass (top 53) 5
abbrev ad_Match_m_back (K : PySem.W.Frag) : Addr := He.ma K (He.ga K "Match") "back"
abbrev s_Match_m_meeting : Stmt := inClass (top 53) 2
abbrev ad_Match_m_meeting (K : PySem.W.Frag) : Addr := propG K "Match" "meeting"
abbrev s_other_side : Stmt := top 51
abbrev ad_other_side (K : PySem.W.Frag) : Addr := He.ga K "other_side"
abbrev s_Match_m_turn : Stmt := inClass (top 53) 1
abbrev ad_Match_m_turn (K : PySem.W.Frag) : Addr := propG K "Match" "turn"
abbrev s_Match_m_moves : Stmt := inClass (top 53) 3
abbrev ad_Match_m_moves (K : PySem.W.Frag) : Addr := He.ma K (He.ga K "Match") "moves"
abbrev s_Meeting_m_moved : Stmt := inClass (top 48) 3
abbrev ad_Meeting_m_moved (K : PySem.W.Frag) : Addr := He.ma K (He.ga K "Meeting") "moved"
abbrev s_Match_m_play : Stmt := inClass (top 53) 4
abbrev ad_Match_m_play (K : PySem.W.Frag) : Addr := He.ma K (He.ga K "Match") "play"
abbrev s_law_no_move : Stmt := top 64
abbrev ad_law_no_move (K : PySem.W.Frag) : Addr := He.ga K "_law_no_move"
abbrev s_Meeting_m_boards : Stmt := inClass (top 48) 1
abbrev ad_Meeting_m_boards (K : PySem.W.Frag) : Addr := He.ma K (He.ga K "Meeting") "boards"
abbrev s_law_deed : Stmt := top 67
abbrev ad_law_deed (K : PySem.W.Frag) : Addr := He.ga K "_law_deed"
abbrev s_Heaps_m_value : Stmt := inClass (top 30) 2
abbrev ad_Heaps_m_value (K : PySem.W.Frag) : Addr := He.ma K (He.ga K "Heaps") "value"
abbrev s_Floor_m_value : Stmt := inClass (top 20) 2
abbrev ad_Floor_m_value (K : PySem.W.Frag) : Addr := He.ma K (He.ga K "Floor") "value"
abbrev s_Frogs_m_value : Stmt := inClass (top 26) 2
abbrev ad_Frogs_m_value (K : PySem.W.Frag) : Addr := He.ma K (He.ga K "Frogs") "value"
abbrev s_Cakes_m_value : Stmt := inClass (top 12) 2
abbrev ad_Cakes_m_value (K : PySem.W.Frag) : Addr := He.ma K (He.ga K "Cakes") "value"
abbrev s_Table_m_value : Stmt := inClass (top 42) 2
abbrev ad_Table_m_value (K : PySem.W.Frag) : Addr := He.ma K (He.ga K "Table") "value"
abbrev s_Meeting_m_value : Stmt := inClass (top 48) 4
abbrev ad_Meeting_m_value (K : PySem.W.Frag) : Addr := He.ma K (He.ga K "Meeting") "value"
abbrev s_Match_m_record : Stmt := inClass (top 53) 7
abbrev ad_Match_m_record (K : PySem.W.Frag) : Addr := He.ma K (He.ga K "Match") "record"
abbrev s_Match_m_winner : Stmt := inClass (top 53) 6
abbrev ad_Match_m_winner (K : PySem.W.Frag) : Addr := He.ma K (He.ga K "Match") "winner"
abbrev s_law_is : Stmt := top 66
abbrev ad_law_is (K : PySem.W.Frag) : Addr := He.ga K "_law_is"
abbrev s_law : Stmt := top 68
abbrev ad_law (K : PySem.W.Frag) : Addr := He.ga K "law"
def addrs : List PySem.Addr := ([3, 31, 44, 56, 68, 80, 89, 125, 136, 141, 142, 204, 209, 210, 269, 311, 316, 317, 362, 373, 378, 421, 432, 439, 490, 495, 502, 587, 598, 605, 610, 617, 622, 627, 634, 639, 646, 653, 660, 665] : List PySem.Addr) ++ ([672, 677, 30, 43, 79, 88, 124, 135, 140, 143, 144, 203, 211, 212, 268, 310, 318, 319, 361, 372, 377, 420, 431, 438, 489, 501, 586, 597, 604, 609, 616, 621, 626, 633, 638, 645, 652, 659, 664, 671] : List PySem.Addr) ++ ([676, 101, 108, 115, 156, 163, 170, 182, 189, 194, 224, 231, 238, 252, 259, 266, 287, 294, 301, 331, 338, 345, 392, 397, 404, 418, 453, 460, 465, 472, 477, 516, 524, 532, 539, 546, 553, 560, 567, 100] : List PySem.Addr) ++ ([107, 114, 155, 162, 169, 181, 188, 193, 223, 230, 237, 251, 258, 265, 286, 293, 300, 330, 337, 344, 391, 396, 403, 417, 452, 459, 464, 471, 476, 515, 523, 531, 538, 545, 552, 559, 566, 522, 530] : List PySem.Addr)
def fs : List (PySem.W.Frag → Bool) := [fun K => (He.Fa.glo "BadText").ok K,
  fun K => (He.Fa.glo "BadValue").ok K,
  fun K => (He.Fa.glo "COLOURS").ok K,
  fun K => (He.Fa.glo "CUTS").ok K,
  fun K => (He.Fa.glo "Cakes").ok K,
  fun K => (He.Fa.glo "Floor").ok K,
  fun K => (He.Fa.glo "Frogs").ok K,
  fun K => (He.Fa.glo "Heaps").ok K,
  fun K => (He.Fa.glo "Hedge").ok K,
  fun K => (He.Fa.glo "MOVERS").ok K,
  fun K => (He.Fa.glo "Match").ok K,
  fun K => (He.Fa.glo "Meeting").ok K,
  fun K => (He.Fa.glo "NoMove").ok K,
  fun K => (He.Fa.glo "PlayError").ok K,
  fun K => (He.Fa.glo "SHAPES").ok K,
  fun K => (He.Fa.glo "SIDES").ok K,
  fun K => (He.Fa.glo "SIGNS").ok K,
  fun K => (He.Fa.glo "Table").ok K,
  fun K => (He.Fa.glo "Unknown").ok K,
  fun K => (He.Fa.glo "_check_cake").ok K,
  fun K => (He.Fa.glo "_check_edge").ok K,
  fun K => (He.Fa.glo "_check_row").ok K,
  fun K => (He.Fa.glo "_cuts").ok K,
  fun K => (He.Fa.glo "_law_bad_side").ok K,
  fun K => (He.Fa.glo "_law_board").ok K,
  fun K => (He.Fa.glo "_law_cakes").ok K,
  fun K => (He.Fa.glo "_law_deed").ok K,
  fun K => (He.Fa.glo "_law_draw").ok K,
  fun K => (He.Fa.glo "_law_floor").ok K,
  fun K => (He.Fa.glo "_law_frogs").ok K,
  fun K => (He.Fa.glo "_law_heaps").ok K,
  fun K => (He.Fa.glo "_law_hedge").ok K,
  fun K => (He.Fa.glo "_law_is").ok K,
  fun K => (He.Fa.glo "_law_no_move").ok K,
  fun K => (He.Fa.glo "_law_table").ok K,
  fun K => (He.Fa.glo "_law_tape").ok K,
  fun K => (He.Fa.glo "_reached").ok K,
  fun K => (He.Fa.glo "is_board").ok K,
  fun K => (He.Fa.glo "is_whole").ok K,
  fun K => (He.Fa.glo "law").ok K,
  fun K => (He.Fa.glo "other_side").ok K,
  fun K => (He.Fa.free "ValueError").ok K,
  fun K => (He.Fa.free "all").ok K,
  fun K => (He.Fa.free "enumerate").ok K,
  fun K => (He.Fa.free "int").ok K,
  fun K => (He.Fa.free "isinstance").ok K,
  fun K => (He.Fa.free "len").ok K,
  fun K => (He.Fa.free "list").ok K,
  fun K => (He.Fa.free "min").ok K,
  fun K => (He.Fa.free "range").ok K,
  fun K => (He.Fa.free "str").ok K,
  fun K => (He.Fa.free "sum").ok K,
  fun K => (He.Fa.free "tuple").ok K,
  fun K => (He.Fa.free "type").ok K,
  fun K => tupB K (He.ga K "COLOURS") [V.str "blue", V.str "green", V.str "red"],
  fun K => (He.Fa.str "COVERED" "#").ok K,
  fun K => kdB K "CUTS" "left" [V.str "blue", V.str "green"],
  fun K => kdB K "CUTS" "right" [V.str "red", V.str "green"],
  fun K => (He.Fa.str "FREE_floor" ".").ok K,
  fun K => (He.Fa.str "FREE_frogs" ".").ok K,
  fun K => (He.Fa.int "GROUND" (0)).ok K,
  fun K => (He.Fa.int "MOST_BOARDS" (8)).ok K,
  fun K => (He.Fa.int "MOST_CELLS" (6)).ok K,
  fun K => (He.Fa.int "MOST_EDGES" (16)).ok K,
  fun K => (He.Fa.int "MOST_HEAPS" (8)).ok K,
  fun K => (He.Fa.int "MOST_KNOT" (15)).ok K,
  fun K => (He.Fa.int "MOST_LENGTH" (12)).ok K,
  fun K => (He.Fa.int "MOST_PLACES" (12)).ok K,
  fun K => (He.Fa.int "MOST_ROWS" (40)).ok K,
  fun K => (He.Fa.int "MOST_SIZE" (30)).ok K,
  fun K => (He.Fa.int "MOST_SQUARES" (144)).ok K,
  fun K => kdB K "MOVERS" "left" [V.str "T", V.str "F", V.int (1)],
  fun K => kdB K "MOVERS" "right" [V.str "F", V.str "T", V.int (-1)],
  fun K => kdB K "SHAPES" "left" [V.int (1), V.int (0)],
  fun K => kdB K "SHAPES" "right" [V.int (0), V.int (1)],
  fun K => tupB K (He.ga K "SIDES") [V.str "left", V.str "right"],
  fun K => tupB K (He.ga K "SIGNS") [V.str "T", V.str "F", V.str "."],
  fun K => (He.Fa.cls "Cakes").ok K,
  fun K => (He.Fa.cls "Floor").ok K,
  fun K => (He.Fa.cls "Frogs").ok K,
  fun K => (He.Fa.cls "Heaps").ok K,
  fun K => (He.Fa.cls "Hedge").ok K,
  fun K => (He.Fa.cls "Match").ok K,
  fun K => (He.Fa.cls "Meeting").ok K,
  fun K => (He.Fa.cls "Table").ok K,
  fun K => (He.Fa.exc "BadValue").ok K,
  fun K => (He.Fa.exc "NoMove").ok K,
  fun K => excCB K "BadValue",
  fun K => excCB K "NoMove",
  fun K => decide (PySem.W.exmOne K (.ref (He.ga K "BadValue")) (.ref (He.ga K "BadValue")) = some true),
  fun K => decide (PySem.W.exmOne K (.ref (He.ga K "NoMove")) (.ref (He.ga K "NoMove")) = some true),
  fun K => decide (PySem.W.kitOne K (.ref (He.ga K "BadValue")) (.ref (He.ga K "NoMove")) = some false),
  fun K => decide (PySem.W.kitOne K (.ref (He.ga K "BadValue")) (.ref (He.ga K "PlayError")) = some true),
  fun K => decide (PySem.W.kitOne K (.ref (He.ga K "NoMove")) (.ref (He.ga K "BadText")) = some false),
  fun K => decide (PySem.W.kitOne K (.ref (He.ga K "NoMove")) (.ref (He.ga K "BadValue")) = some false),
  fun K => decide (PySem.W.kitOne K (.ref (He.ga K "NoMove")) (.ref (He.ga K "PlayError")) = some true),
  fun K => decide (PySem.W.kitOne K (.ref (He.ga K "NoMove")) (.ref (He.ga K "Unknown")) = some false),
  fun K => decide (PySem.W.kitOne K (.ref (He.ga K "NoMove")) (.type "ValueError") = some true),
  fun K => (He.Fa.meth "Cakes" "moves").ok K,
  fun K => (He.Fa.meth "Cakes" "value").ok K,
  fun K => (He.Fa.meth "Floor" "_cells").ok K,
  fun K => (He.Fa.meth "Floor" "_covered").ok K,
  fun K => (He.Fa.meth "Floor" "_is_free").ok K,
  fun K => (He.Fa.meth "Floor" "moves").ok K,
  fun K => (He.Fa.meth "Floor" "value").ok K,
  fun K => (He.Fa.meth "Frogs" "_moved").ok K,
  fun K => (He.Fa.meth "Frogs" "_sign").ok K,
  fun K => (He.Fa.meth "Frogs" "_target").ok K,
  fun K => (He.Fa.meth "Frogs" "moves").ok K,
  fun K => (He.Fa.meth "Frogs" "value").ok K,
  fun K => (He.Fa.meth "Heaps" "moves").ok K,
  fun K => (He.Fa.meth "Heaps" "value").ok K,
  fun K => (He.Fa.meth "Hedge" "moves").ok K,
  fun K => (He.Fa.meth "Hedge" "value").ok K,
  fun K => (He.Fa.meth "Match" "back").ok K,
  fun K => (He.Fa.meth "Match" "moves").ok K,
  fun K => (He.Fa.meth "Match" "play").ok K,
  fun K => (He.Fa.meth "Match" "record").ok K,
  fun K => (He.Fa.meth "Match" "winner").ok K,
  fun K => (He.Fa.meth "Meeting" "boards").ok K,
  fun K => (He.Fa.meth "Meeting" "moved").ok K,
  fun K => (He.Fa.meth "Meeting" "moves").ok K,
  fun K => (He.Fa.meth "Meeting" "value").ok K,
  fun K => (He.Fa.meth "Table" "_moved").ok K,
  fun K => (He.Fa.meth "Table" "moves").ok K,
  fun K => (He.Fa.meth "Table" "value").ok K,
  fun K => (He.Fa.mkr "Cakes").ok K,
  fun K => (He.Fa.mkr "Floor").ok K,
  fun K => (He.Fa.mkr "Frogs").ok K,
  fun K => (He.Fa.mkr "Heaps").ok K,
  fun K => (He.Fa.mkr "Hedge").ok K,
  fun K => (He.Fa.mkr "Match").ok K,
  fun K => (He.Fa.mkr "Meeting").ok K,
  fun K => (He.Fa.mkr "Table").ok K,
  fun K => decide (He.ga K "Meeting" ≠ He.ga K "Cakes"),
  fun K => decide (He.ga K "Meeting" ≠ He.ga K "Floor"),
  fun K => decide (He.ga K "Meeting" ≠ He.ga K "Frogs"),
  fun K => decide (He.ga K "Meeting" ≠ He.ga K "Heaps"),
  fun K => decide (He.ga K "Meeting" ≠ He.ga K "Hedge"),
  fun K => decide (He.ga K "Meeting" ≠ He.ga K "Table"),
  fun K => (He.Fa.noat "Cakes" "_cakes").ok K,
  fun K => (He.Fa.noat "Floor" "_rows").ok K,
  fun K => (He.Fa.noat "Frogs" "_line").ok K,
  fun K => (He.Fa.noat "Heaps" "_sizes").ok K,
  fun K => (He.Fa.noat "Hedge" "_edges").ok K,
  fun K => (He.Fa.noat "Match" "_first").ok K,
  fun K => (He.Fa.noat "Match" "_indexes").ok K,
  fun K => (He.Fa.noat "Match" "_meetings").ok K,
  fun K => (He.Fa.noat "Meeting" "_boards").ok K,
  fun K => (He.Fa.noat "Table" "_place").ok K,
  fun K => (He.Fa.noat "Table" "_rows").ok K,
  fun K => propB K "Match" "meeting",
  fun K => propB K "Match" "turn"]
def fn : List He5.DefA := [{ at_ := fun K => ad_law_tape K, name := "_law_tape", qual := "_law_tape", params := defArgs s_law_tape, body := defBody s_law_tape, scope := defScope s_law_tape, dfl := [] },
  { at_ := fun K => ad_is_board K, name := "is_board", qual := "is_board", params := defArgs s_is_board, body := defBody s_is_board, scope := defScope s_is_board, dfl := [] },
  { at_ := fun K => ad_Meeting_d_init K, name := "__init__", qual := "Meeting.__init__", params := defArgs s_Meeting_d_init, body := defBody s_Meeting_d_init, scope := defScope s_Meeting_d_init, dfl := [] },
  { at_ := fun K => ad_law_draw K, name := "_law_draw", qual := "_law_draw", params := defArgs s_law_draw, body := defBody s_law_draw, scope := defScope s_law_draw, dfl := [] },
  { at_ := fun K => ad_is_whole K, name := "is_whole", qual := "is_whole", params := defArgs s_is_whole, body := defBody s_is_whole, scope := defScope s_is_whole, dfl := [] },
  { at_ := fun K => ad_Heaps_d_init K, name := "__init__", qual := "Heaps.__init__", params := defArgs s_Heaps_d_init, body := defBody s_Heaps_d_init, scope := defScope s_Heaps_d_init, dfl := [] },
  { at_ := fun K => ad_law_heaps K, name := "_law_heaps", qual := "_law_heaps", params := defArgs s_law_heaps, body := defBody s_law_heaps, scope := defScope s_law_heaps, dfl := [] },
  { at_ := fun K => ad_check_edge K, name := "_check_edge", qual := "_check_edge", params := defArgs s_check_edge, body := defBody s_check_edge, scope := defScope s_check_edge, dfl := [] },
  { at_ := fun K => ad_reached K, name := "_reached", qual := "_reached", params := defArgs s_reached, body := defBody s_reached, scope := defScope s_reached, dfl := [] },
  { at_ := fun K => ad_Hedge_d_init K, name := "__init__", qual := "Hedge.__init__", params := defArgs s_Hedge_d_init, body := defBody s_Hedge_d_init, scope := defScope s_Hedge_d_init, dfl := [] },
  { at_ := fun K => ad_law_hedge K, name := "_law_hedge", qual := "_law_hedge", params := defArgs s_law_hedge, body := defBody s_law_hedge, scope := defScope s_law_hedge, dfl := [] },
  { at_ := fun K => ad_Floor_d_init K, name := "__init__", qual := "Floor.__init__", params := defArgs s_Floor_d_init, body := defBody s_Floor_d_init, scope := defScope s_Floor_d_init, dfl := [] },
  { at_ := fun K => ad_law_floor K, name := "_law_floor", qual := "_law_floor", params := defArgs s_law_floor, body := defBody s_law_floor, scope := defScope s_law_floor, dfl := [] },
  { at_ := fun K => ad_Frogs_d_init K, name := "__init__", qual := "Frogs.__init__", params := defArgs s_Frogs_d_init, body := defBody s_Frogs_d_init, scope := defScope s_Frogs_d_init, dfl := [] },
  { at_ := fun K => ad_law_frogs K, name := "_law_frogs", qual := "_law_frogs", params := defArgs s_law_frogs, body := defBody s_law_frogs, scope := defScope s_law_frogs, dfl := [] },
  { at_ := fun K => ad_check_cake K, name := "_check_cake", qual := "_check_cake", params := defArgs s_check_cake, body := defBody s_check_cake, scope := defScope s_check_cake, dfl := [] },
  { at_ := fun K => ad_Cakes_d_init K, name := "__init__", qual := "Cakes.__init__", params := defArgs s_Cakes_d_init, body := defBody s_Cakes_d_init, scope := defScope s_Cakes_d_init, dfl := [] },
  { at_ := fun K => ad_law_cakes K, name := "_law_cakes", qual := "_law_cakes", params := defArgs s_law_cakes, body := defBody s_law_cakes, scope := defScope s_law_cakes, dfl := [] },
  { at_ := fun K => ad_check_row K, name := "_check_row", qual := "_check_row", params := defArgs s_check_row, body := defBody s_check_row, scope := defScope s_check_row, dfl := [] },
  { at_ := fun K => ad_Table_d_init K, name := "__init__", qual := "Table.__init__", params := defArgs s_Table_d_init, body := defBody s_Table_d_init, scope := defScope s_Table_d_init, dfl := [] },
  { at_ := fun K => ad_law_table K, name := "_law_table", qual := "_law_table", params := defArgs s_law_table, body := defBody s_law_table, scope := defScope s_law_table, dfl := [] },
  { at_ := fun K => ad_law_board K, name := "_law_board", qual := "_law_board", params := defArgs s_law_board, body := defBody s_law_board, scope := defScope s_law_board, dfl := [] },
  { at_ := fun K => ad_Match_d_init K, name := "__init__", qual := "Match.__init__", params := defArgs s_Match_d_init, body := defBody s_Match_d_init, scope := defScope s_Match_d_init, dfl := [] },
  { at_ := fun K => ad_law_bad_side K, name := "_law_bad_side", qual := "_law_bad_side", params := defArgs s_law_bad_side, body := defBody s_law_bad_side, scope := defScope s_law_bad_side, dfl := [] },
  { at_ := fun K => ad_Heaps_m_moves K, name := "moves", qual := "Heaps.moves", params := defArgs s_Heaps_m_moves, body := defBody s_Heaps_m_moves, scope := defScope s_Heaps_m_moves, dfl := [] },
  { at_ := fun K => ad_Hedge_m_value K, name := "value", qual := "Hedge.value", params := defArgs s_Hedge_m_value, body := defBody s_Hedge_m_value, scope := defScope s_Hedge_m_value, dfl := [] },
  { at_ := fun K => ad_Hedge_m_moves K, name := "moves", qual := "Hedge.moves", params := defArgs s_Hedge_m_moves, body := defBody s_Hedge_m_moves, scope := defScope s_Hedge_m_moves, dfl := [] },
  { at_ := fun K => ad_Floor_p_cells K, name := "_cells", qual := "Floor._cells", params := defArgs s_Floor_p_cells, body := defBody s_Floor_p_cells, scope := defScope s_Floor_p_cells, dfl := [] },
  { at_ := fun K => ad_Floor_p_is_free K, name := "_is_free", qual := "Floor._is_free", params := defArgs s_Floor_p_is_free, body := defBody s_Floor_p_is_free, scope := defScope s_Floor_p_is_free, dfl := [] },
  { at_ := fun K => ad_Floor_p_covered K, name := "_covered", qual := "Floor._covered", params := defArgs s_Floor_p_covered, body := defBody s_Floor_p_covered, scope := defScope s_Floor_p_covered, dfl := [] },
  { at_ := fun K => ad_Floor_m_moves K, name := "moves", qual := "Floor.moves", params := defArgs s_Floor_m_moves, body := defBody s_Floor_m_moves, scope := defScope s_Floor_m_moves, dfl := [] },
  { at_ := fun K => ad_Frogs_p_sign K, name := "_sign", qual := "Frogs._sign", params := defArgs s_Frogs_p_sign, body := defBody s_Frogs_p_sign, scope := defScope s_Frogs_p_sign, dfl := [] },
  { at_ := fun K => ad_Frogs_p_target K, name := "_target", qual := "Frogs._target", params := defArgs s_Frogs_p_target, body := defBody s_Frogs_p_target, scope := defScope s_Frogs_p_target, dfl := [] },
  { at_ := fun K => ad_Frogs_p_moved K, name := "_moved", qual := "Frogs._moved", params := defArgs s_Frogs_p_moved, body := defBody s_Frogs_p_moved, scope := defScope s_Frogs_p_moved, dfl := [] },
  { at_ := fun K => ad_Frogs_m_moves K, name := "moves", qual := "Frogs.moves", params := defArgs s_Frogs_m_moves, body := defBody s_Frogs_m_moves, scope := defScope s_Frogs_m_moves, dfl := [] },
  { at_ := fun K => ad_cuts K, name := "_cuts", qual := "_cuts", params := defArgs s_cuts, body := defBody s_cuts, scope := defScope s_cuts, dfl := [] },
  { at_ := fun K => ad_Cakes_m_moves K, name := "moves", qual := "Cakes.moves", params := defArgs s_Cakes_m_moves, body := defBody s_Cakes_m_moves, scope := defScope s_Cakes_m_moves, dfl := [] },
  { at_ := fun K => ad_Table_p_moved K, name := "_moved", qual := "Table._moved", params := defArgs s_Table_p_moved, body := defBody s_Table_p_moved, scope := defScope s_Table_p_moved, dfl := [] },
  { at_ := fun K => ad_Table_m_moves K, name := "moves", qual := "Table.moves", params := defArgs s_Table_m_moves, body := defBody s_Table_m_moves, scope := defScope s_Table_m_moves, dfl := [] },
  { at_ := fun K => ad_Meeting_m_moves K, name := "moves", qual := "Meeting.moves", params := defArgs s_Meeting_m_moves, body := defBody s_Meeting_m_moves, scope := defScope s_Meeting_m_moves, dfl := [] },
  { at_ := fun K => ad_Match_m_back K, name := "back", qual := "Match.back", params := defArgs s_Match_m_back, body := defBody s_Match_m_back, scope := defScope s_Match_m_back, dfl := [] },
  { at_ := fun K => ad_Match_m_meeting K, name := "meeting", qual := "Match.meeting", params := defArgs s_Match_m_meeting, body := defBody s_Match_m_meeting, scope := defScope s_Match_m_meeting, dfl := [] },
  { at_ := fun K => ad_other_side K, name := "other_side", qual := "other_side", params := defArgs s_other_side, body := defBody s_other_side, scope := defScope s_other_side, dfl := [] },
  { at_ := fun K => ad_Match_m_turn K, name := "turn", qual := "Match.turn", params := defArgs s_Match_m_turn, body := defBody s_Match_m_turn, scope := defScope s_Match_m_turn, dfl := [] },
  { at_ := fun K => ad_Match_m_moves K, name := "moves", qual := "Match.moves", params := defArgs s_Match_m_moves, body := defBody s_Match_m_moves, scope := defScope s_Match_m_moves, dfl := [] },
  { at_ := fun K => ad_Meeting_m_moved K, name := "moved", qual := "Meeting.moved", params := defArgs s_Meeting_m_moved, body := defBody s_Meeting_m_moved, scope := defScope s_Meeting_m_moved, dfl := [] },
  { at_ := fun K => ad_Match_m_play K, name := "play", qual := "Match.play", params := defArgs s_Match_m_play, body := defBody s_Match_m_play, scope := defScope s_Match_m_play, dfl := [] },
  { at_ := fun K => ad_law_no_move K, name := "_law_no_move", qual := "_law_no_move", params := defArgs s_law_no_move, body := defBody s_law_no_move, scope := defScope s_law_no_move, dfl := [] },
  { at_ := fun K => ad_Meeting_m_boards K, name := "boards", qual := "Meeting.boards", params := defArgs s_Meeting_m_boards, body := defBody s_Meeting_m_boards, scope := defScope s_Meeting_m_boards, dfl := [] },
  { at_ := fun K => ad_law_deed K, name := "_law_deed", qual := "_law_deed", params := defArgs s_law_deed, body := defBody s_law_deed, scope := defScope s_law_deed, dfl := [] },
  { at_ := fun K => ad_Heaps_m_value K, name := "value", qual := "Heaps.value", params := defArgs s_Heaps_m_value, body := defBody s_Heaps_m_value, scope := defScope s_Heaps_m_value, dfl := [] },
  { at_ := fun K => ad_Floor_m_value K, name := "value", qual := "Floor.value", params := defArgs s_Floor_m_value, body := defBody s_Floor_m_value, scope := defScope s_Floor_m_value, dfl := [] },
  { at_ := fun K => ad_Frogs_m_value K, name := "value", qual := "Frogs.value", params := defArgs s_Frogs_m_value, body := defBody s_Frogs_m_value, scope := defScope s_Frogs_m_value, dfl := [] },
  { at_ := fun K => ad_Cakes_m_value K, name := "value", qual := "Cakes.value", params := defArgs s_Cakes_m_value, body := defBody s_Cakes_m_value, scope := defScope s_Cakes_m_value, dfl := [] },
  { at_ := fun K => ad_Table_m_value K, name := "value", qual := "Table.value", params := defArgs s_Table_m_value, body := defBody s_Table_m_value, scope := defScope s_Table_m_value, dfl := [] },
  { at_ := fun K => ad_Meeting_m_value K, name := "value", qual := "Meeting.value", params := defArgs s_Meeting_m_value, body := defBody s_Meeting_m_value, scope := defScope s_Meeting_m_value, dfl := [] },
  { at_ := fun K => ad_Match_m_record K, name := "record", qual := "Match.record", params := defArgs s_Match_m_record, body := defBody s_Match_m_record, scope := defScope s_Match_m_record, dfl := [] },
  { at_ := fun K => ad_Match_m_winner K, name := "winner", qual := "Match.winner", params := defArgs s_Match_m_winner, body := defBody s_Match_m_winner, scope := defScope s_Match_m_winner, dfl := [] },
  { at_ := fun K => ad_law_is K, name := "_law_is", qual := "_law_is", params := defArgs s_law_is, body := defBody s_law_is, scope := defScope s_law_is, dfl := [] },
  { at_ := fun K => ad_law K, name := "law", qual := "law", params := defArgs s_law, body := defBody s_law, scope := defScope s_law, dfl := [] }]
def ts : List He.Tab := [(fun K => He.ga K "CUTS", ["left", "right"]), (fun K => He.ga K "MOVERS", ["left", "right"]), (fun K => He.ga K "SHAPES", ["left", "right"])]
def loose : List PySem.Str := (["_wall", "PlayError", "BadValue", "BadText", "Unknown", "NoMove", "is_whole", "MOST_SQUARES", "MOST_LENGTH", "Cakes", "_check_cake", "_cuts", "MOST_CELLS", "FREE_floor", "COVERED", "SHAPES", "Floor", "MOST_PLACES", "SIGNS", "FREE_frogs", "MOVERS", "Frogs", "MOST_HEAPS", "MOST_SIZE", "Heaps", "MOST_EDGES", "MOST_KNOT", "GROUND", "COLOURS", "CUTS"] : List PySem.Str) ++ (["Hedge", "_check_edge", "_reached", "MOST_ROWS", "Table", "_check_row", "is_board", "MOST_BOARDS", "Meeting", "SIDES", "other_side", "Match", "_law_tape", "_law_draw", "_law_heaps", "_law_hedge", "_law_floor", "_law_frogs", "_law_cakes", "_law_table", "_law_board", "_law_no_move", "_law_bad_side", "_law_is", "_law_deed"] : List PySem.Str)
abbrev R : PySem.W.OpenRow := PySem.W.OpenLaw.row PySem.Challenge.rw_sumsplay_k73_matches_played
abbrev hk : PySem.W.Hook := hookLT addrs fs fn ts
def ob (s : PySem.W.SharedT) : AlM := obsLTG addrs fs fn ts (HandSHeadRun.getT s)
theorem ob_eq (s : PySem.W.SharedT) : ob s = hk.obs s.abs := obsLTG_eq (HandSHeadRun.getT_eq s)
theorem run (w : World) : HandSHeadRun.RunEq R (PySem.W.view R.prog [68]) hk ob 20000 loose w := by
  refine bothF (p := fun w => HandSHeadRun.RunEq R (PySem.W.view R.prog [68]) hk ob 20000 loose w) (fun w os => ?_) (fun w os => ?_) w
  · kernel_rfl
  · kernel_rfl
end Mine.Hd
namespace Mine
open PySem L2
theorem cls_ty (T : String) : ClsV (.ty T) (.type T) := .ty T
theorem k_isiII {K : PySem.W.Frag} {H : Hp} {Q : VK} {i : Int} (q : Q (.bl true) H) : rIsi K [.int i, .ty "int"] H Q :=
  k_isi (cls_ty "int") (.base (.int i)) (kit_ty (b := "int") (r := true) (by decide +kernel)) q
theorem k_isiIB {K : PySem.W.Frag} {H : Hp} {Q : VK} {i : Int} (q : Q (.bl false) H) : rIsi K [.int i, .ty "bool"] H Q :=
  k_isi (cls_ty "bool") (.base (.int i)) (kit_ty (b := "bool") (r := false) (by decide +kernel)) q
theorem k_isiBB {K : PySem.W.Frag} {H : Hp} {Q : VK} {b : Bool} (q : Q (.bl true) H) : rIsi K [.bl b, .ty "bool"] H Q :=
  k_isi (cls_ty "bool") (.base (.bl b)) (kit_ty (b := "bool") (r := true) (by decide +kernel)) q
/-- the plain form of top / 2 ** power -/
def plainZ : Int → Nat → Int × Int
  | t, 0 => (t, 0)
  | t, n + 1 => if t % 2 = 0 then plainZ (t / 2) n else (t, ((n + 1 : Nat) : Int))
theorem plainZ_zero (t : Int) : plainZ t 0 = (t, 0) := rfl
theorem plainZ_even {t : Int} {n : Nat} (h : t % 2 = 0) : plainZ t (n + 1) = plainZ (t / 2) n := by
  show (if t % 2 = 0 then _ else _) = _
  rw [if_pos h]
theorem plainZ_odd {t : Int} {n : Nat} (h : ¬ t % 2 = 0) : plainZ t (n + 1) = (t, ((n + 1 : Nat) : Int)) := by
  show (if t % 2 = 0 then _ else _) = _
  rw [if_neg h]
theorem plainZ_le : ∀ (t : Int) (n : Nat), 0 ≤ (plainZ t n).2 ∧ (plainZ t n).2 ≤ n
  | t, 0 => by simp [plainZ]
  | t, n + 1 => by
    have ih := plainZ_le (t / 2) n
    by_cases h : t % 2 = 0
    · rw [plainZ_even h]; omega
    · rw [plainZ_odd h]; simp only; omega
/-- the plain form, in words: an even top stands with power 0 alone -/
theorem plainZ_plain : ∀ (t : Int) (n : Nat), (plainZ t n).2 = 0 ∨ ¬ (plainZ t n).1 % 2 = 0
  | t, 0 => Or.inl rfl
  | t, n + 1 => by
    by_cases h : t % 2 = 0
    · rw [plainZ_even h]; exact plainZ_plain _ _
    · rw [plainZ_odd h]; exact Or.inr h
/-- the value: t * 2 ^ p = top * 2 ^ n -/
theorem plainZ_val : ∀ (t : Int) (n : Nat), (plainZ t n).1 * 2 ^ n = t * 2 ^ (plainZ t n).2.toNat
  | t, 0 => by simp [plainZ]
  | t, n + 1 => by
    by_cases h : t % 2 = 0
    · rw [plainZ_even h]
      have ih := plainZ_val (t / 2) n
      have e : t = 2 * (t / 2) := by omega
      rw [Int.pow_succ, ← Int.mul_assoc, ih]
      generalize (plainZ (t / 2) n).2.toNat = k
      generalize t / 2 = u at e
      rw [e, Int.mul_comm (u * 2 ^ k) 2, Int.mul_assoc]
    · rw [plainZ_odd h]; rfl
/-- one plain form a number -/
theorem plain_one {t u : Int} {p q : Nat} (ht : p = 0 ∨ ¬ t % 2 = 0) (hu : q = 0 ∨ ¬ u % 2 = 0) (e : t * 2 ^ q = u * 2 ^ p) : t = u ∧ p = q := by
  have key : ∀ {t u : Int} {p q : Nat}, (q = 0 ∨ ¬ u % 2 = 0) → t * 2 ^ q = u * 2 ^ p → ¬ p < q := by
    intro t u p q hu e h
    have e1 : q = (q - p - 1) + 1 + p := by omega
    rw [e1, Int.pow_add, ← Int.mul_assoc] at e
    have e2 := Int.eq_of_mul_eq_mul_right (Int.ne_of_gt (Int.pow_pos (by decide))) e
    rw [Int.pow_succ, ← Int.mul_assoc] at e2
    omega
  have h1 := key hu e
  have h2 := key ht e.symm
  have h3 : p = q := by omega
  subst h3
  exact ⟨Int.eq_of_mul_eq_mul_right (Int.ne_of_gt (Int.pow_pos (by decide))) e, rfl⟩
/-- two numbers by any of their forms -/
theorem scale (a c : Int) (b d : Nat) : ∃ S : Int, 0 < S ∧ ∃ S' : Int, 0 < S' ∧ (plainZ a b).1 * 2 ^ (plainZ c d).2.toNat * S = a * 2 ^ d * S' ∧ (plainZ c d).1 * 2 ^ (plainZ a b).2.toNat * S = c * 2 ^ b * S' := by
  have v1 := plainZ_val a b
  have v2 := plainZ_val c d
  generalize plainZ a b = x at *
  generalize plainZ c d = y at *
  refine ⟨2 ^ b * 2 ^ d, Int.mul_pos (Int.pow_pos (by decide)) (Int.pow_pos (by decide)), 2 ^ x.2.toNat * 2 ^ y.2.toNat, Int.mul_pos (Int.pow_pos (by decide)) (Int.pow_pos (by decide)), ?_, ?_⟩
  · generalize (2 : Int) ^ y.2.toNat = Y at *
    generalize (2 : Int) ^ x.2.toNat = X at *
    generalize (2 : Int) ^ b = B at *
    generalize (2 : Int) ^ d = D at *
    have : x.1 * Y * (B * D) = (x.1 * B) * (Y * D) := by ac_rfl
    rw [this, v1]; ac_rfl
  · generalize (2 : Int) ^ y.2.toNat = Y at *
    generalize (2 : Int) ^ x.2.toNat = X at *
    generalize (2 : Int) ^ b = B at *
    generalize (2 : Int) ^ d = D at *
    have : y.1 * X * (B * D) = (y.1 * D) * (X * B) := by ac_rfl
    rw [this, v2]; ac_rfl
theorem lt_forms (a c : Int) (b d : Nat) : ((plainZ a b).1 * 2 ^ (plainZ c d).2.toNat < (plainZ c d).1 * 2 ^ (plainZ a b).2.toNat) ↔ (a * 2 ^ d < c * 2 ^ b) := by
  obtain ⟨S, hS, S', hS', e1, e2⟩ := scale a c b d
  constructor
  · intro h
    have h1 := Int.mul_lt_mul_of_pos_right h hS
    rw [e1, e2] at h1
    exact Int.lt_of_mul_lt_mul_right h1 (Int.le_of_lt hS')
  · intro h
    have h1 := Int.mul_lt_mul_of_pos_right h hS'
    rw [← e1, ← e2] at h1
    exact Int.lt_of_mul_lt_mul_right h1 (Int.le_of_lt hS)
theorem eq_forms (a c : Int) (b d : Nat) : ((plainZ a b).1 = (plainZ c d).1 ∧ (plainZ a b).2 = (plainZ c d).2) ↔ (a * 2 ^ d = c * 2 ^ b) := by
  obtain ⟨S, hS, S', hS', e1, e2⟩ := scale a c b d
  have w1 := plainZ_le a b
  have w2 := plainZ_le c d
  constructor
  · rintro ⟨h1, h2⟩
    have h3 : (plainZ a b).1 * 2 ^ (plainZ c d).2.toNat * S = (plainZ c d).1 * 2 ^ (plainZ a b).2.toNat * S := by rw [h1, h2]
    rw [e1, e2] at h3
    exact Int.eq_of_mul_eq_mul_right (Int.ne_of_gt hS') h3
  · intro h
    rw [h, ← e2] at e1
    have h1 := Int.eq_of_mul_eq_mul_right (Int.ne_of_gt hS) e1
    have p1 := plainZ_plain a b
    have p2 := plainZ_plain c d
    have r := plain_one (p := (plainZ a b).2.toNat) (q := (plainZ c d).2.toNat) (by omega) (by omega) h1
    exact ⟨r.1, by omega⟩
theorem bitAnd_one (x : Int) : Builtin.bitAnd x 1 = x % 2 := by
  exact PyProof.Rows.bitAnd_m1 x
end Mine
namespace Mine
open PySem PySem.Spec PyProof.Rows L2
open Evl (Ex)
/-- what of the class Dyadic's text is needed -/
structure FDyadic (K : PySem.W.Frag) : Prop where
  cl : Cls K (He.ga K "Dyadic")
  nt : NoAttr K (He.ga K "Dyadic") "_top"
  np : NoAttr K (He.ga K "Dyadic") "_power"
theorem ktp : ¬ (("_top" : Str) = "_power") := by decide +kernel
/-- its attributes -/
def dfs (t p : Int) : List (Str × V) := putF "_power" (.int p) (putF "_top" (.int t) [])
theorem dfs_top (t p : Int) : (dfs t p).lookup ("_top" : Str) = some (.int t) := by
  unfold dfs
  rw [lookup_putF, if_neg ktp, lookup_putF, if_pos rfl]
theorem dfs_power (t p : Int) : (dfs t p).lookup ("_power" : Str) = some (.int p) := by
  unfold dfs
  rw [lookup_putF, if_pos rfl]
theorem dfs_no (t p : Int) {m : Str} (h1 : ¬ m = "_power") (h2 : ¬ m = "_top") : (dfs t p).lookup m = none := by
  unfold dfs
  rw [lookup_putF, if_neg h1, lookup_putF, if_neg h2]
  all_goals rfl
theorem dfs_len (t p : Int) : (dfs t p).length < 1000 := by
  have h := length_putF "_power" (V.int p) (putF "_top" (V.int t) [])
  have h2 := length_putF "_top" (V.int t) []
  simp only [List.length_nil] at h2
  unfold dfs; omega
def okTop (a b : Int) : Prop := (-1000000000000 ≤ a ∧ a ≤ 1000000000000) ∧ 0 ≤ b ∧ b ≤ 40
/-- a Dyadic stands at a: its plain form's top and power -/
def DyAt (K : PySem.W.Frag) (H : Hp) (a : Addr) (t p : Int) : Prop := ∃ dx, H a = some (.ins (He.ga K "Dyadic") dx (dfs t p))
theorem DyAt.ex {K : PySem.W.Frag} {H H' : Hp} {a : Addr} {t p : Int} (h : DyAt K H a t p) (e : Ex H H') : DyAt K H' a t p :=
  let ⟨dx, q⟩ := h
  ⟨dx, e _ _ q⟩
theorem dy_inj {K : PySem.W.Frag} {H : Hp} {a : Addr} {t p t' p' : Int} (h : DyAt K H a t p) (h' : DyAt K H a t' p') : t = t' ∧ p = p' := by
  obtain ⟨dx, h⟩ := h
  obtain ⟨dx', h'⟩ := h'
  have e := Option.some.inj (h.symm.trans h')
  injection e with _ _ e
  have e1 := congrArg (fun l => List.lookup ("_top" : Str) l) e
  have e2 := congrArg (fun l => List.lookup ("_power" : Str) l) e
  simp only [dfs_top, dfs_power, Option.some.injEq, V.int.injEq] at e1 e2
  exact ⟨e1, e2⟩
theorem dy_tr {K : PySem.W.Frag} {H H' : Hp} {a : Addr} {t p : Int} (e : Ex H H') (h : DyAt K H a t p) : DyAt K H' a t p := h.ex e
theorem dy_prop {K : PySem.W.Frag} {H : Hp} {a : Addr} {t p : Int} {P : Addr → Prop} (h : DyAt K H a t p) (q : P a) :
    ∃ b dx fs, V.ref a = V.ref b ∧ H b = some (HO.ins (He.ga K "Dyadic") dx fs) ∧ P b :=
  let ⟨dx, e⟩ := h
  ⟨a, dx, _, rfl, e, q⟩
theorem dy_isC {K : PySem.W.Frag} {H : Hp} {Q : VK} {a : Addr} {t p : Int} (h : DyAt K H a t p) (q : Q (.bl true) H) : rIsC (He.ga K "Dyadic") [.ref a, .ref (He.ga K "Dyadic")] H Q :=
  let ⟨dx, e⟩ := h
  ⟨a, dx, _, rfl, e, q⟩
/-- x.m(..): what a method call asks of a Dyadic -/
theorem dy_meth {K : PySem.W.Frag} {H : Hp} {a : Addr} {t p : Int} {m : Str} {P : Prop} (h : DyAt K H a t p) (h1 : ¬ m = "_power") (h2 : ¬ m = "_top") (q : P) :
    ∃ b dx fs, V.ref a = V.ref b ∧ H b = some (HO.ins (He.ga K "Dyadic") dx fs) ∧ fs.lookup m = none ∧ P :=
  let ⟨dx, e⟩ := h
  ⟨a, dx, _, rfl, e, dfs_no _ _ h1 h2, q⟩
end Mine
namespace Mine
open PySem PySem.Spec PyProof.Rows L2
open PySem.AutoSeq1
/-! enumerate(a tuple) -/
set_option maxHeartbeats 1600000 in
theorem meets_enum1 {v : Value} {o : Obj} {G : Heap → Prop} (B : Begins v o G) :
    Meets (Builtin.«enumerate.__new__» ⟨[.type "enumerate", v], []⟩) (fun _ R s => G s.heap ∧
      R (.ok (.ret (.ref (s.heap.push o).objs.size))) { s with heap := (s.heap.push o).push { cls := .type "enumerate", data := .fields #[.none, .bool false, .ref s.heap.objs.size, rawInt 0, .none, .none] } }) :=
  .of_wp fun prog w A R s h => by
    obtain ⟨hp, g, d, tk, os⟩ := s
    obtain ⟨h1, h⟩ := h
    have sub := sub_enumerate
    have begins : ∀ {A' : Around} {E : Value → Shared → Prop} {Q : Value → Shared → Prop}, Q (.ref hp.objs.size) ⟨hp.push o, g, d, tk, os⟩ → wpAny (model prog w) A' (pyIter v) Q E ⟨hp, g, d, tk, os⟩ :=
      fun q => B.iter prog w _ _ ⟨hp, g, d, tk, os⟩ _ h1 q
    wp_walk using begins
    refine wpAny_stack_any fun st => wpAny_pure ?_
    split
    · rename_i c _ _ _ _ _
      cases (c == Value.type "enumerate")
      · wp_walk using begins
        exact ⟨_, rfl, h⟩
      · wp_walk using begins
        exact ⟨_, rfl, h⟩
    · wp_walk using begins
      exact ⟨_, rfl, h⟩
section
variable {prog : Program} {w : World} {A : Around} {E : Value → Shared → Prop} {s : Shared}
theorem enum1_begins {v : Value} {o : Obj} {G : Heap → Prop} {Q : Value → Shared → Prop} (B : Begins v o G) (h1 : G s.heap)
    (q : ∀ h', IsEnum h' (s.heap.objs.size + 1) s.heap.objs.size 0 .none → h'.get? s.heap.objs.size = some o → (∀ b u, s.heap.get? b = some u → h'.get? b = some u) → Q (.ref (s.heap.objs.size + 1)) { s with heap := h' }) :
    wpAny (model prog w) A (call (.type "enumerate") [v]) Q E s := by
  refine callType_new F.called_enumerate (by decide) (F.typeCall_enumerate_1 _) (F.newCall_enumerate_1 _) (fun obj => F.args_object_init_2 obj _) F.entry_enumerate_new (meets_enum1 B) ⟨h1, ?_⟩
  have z : (s.heap.push o).objs.size = s.heap.objs.size + 1 := Heap.size_push ..
  show _ ∧ _
  rw [z]
  have he : IsEnum ((s.heap.push o).push { cls := .type "enumerate", data := .fields #[.none, .bool false, .ref s.heap.objs.size, rawInt 0, .none, .none] }) (s.heap.objs.size + 1) s.heap.objs.size 0 .none := by
    have t := Heap.get?_push_size (s.heap.push o) (o := { cls := .type "enumerate", data := .fields #[.none, .bool false, .ref s.heap.objs.size, rawInt 0, .none, .none] }) rfl
    rw [z] at t; exact t
  exact ⟨⟨_, he, rfl⟩, q _ he (Heap.get?_push_of_some _ (Heap.get?_push_size _ B.free)) fun b u x => Heap.get?_push_of_some _ (Heap.get?_push_of_some _ x)⟩
end
/-- the tuple at a, each item in a new pair with its place -/
def IteT (K : PySem.W.Frag) (a : Addr) : It :=
  ⟨fun i H => ∃ (xs : List V) (x : V), SqT K H a xs ∧ xs[i]? = some x, fun i H v H' => ∃ T x, v = .ref T ∧ H T = none ∧ H' = upd H T (.tup [.int (i : Nat), x]) ∧ ∀ xs, SqT K H a xs → xs[i]? = some x, fun i H => ∃ xs : List V, SqT K H a xs ∧ xs.length ≤ i⟩
theorem turn_enumT {P : Program} {w : World} {K : PySem.W.Frag} {elts : List Expr} {kk : Nat} {tpos : Pos} (a e it : Addr) :
    Turn P w K (.Tuple elts kk tpos) (IteT K a) [e, it] e (fun i h => (∃ old, IsEnum h e it ((i : Nat) : Int) old) ∧ h.IsTupleIter it a i ∧ e ≠ it ∧ a ≠ it ∧ e ≠ a) where
  mem := by simp
  obj := fun i h st b hb => by
    obtain ⟨⟨old, he⟩, ⟨o, ho, hc, hd⟩, _⟩ := st
    rcases (show b = e ∨ b = it by simpa using hb) with z | z
    · rw [z]; exact ⟨_, he, fun v q => nomatch q⟩
    · rw [z]; exact ⟨o, ho, fun v q => by rw [hd] at q; cases q⟩
  keep := fun i h h' st k => let ⟨⟨old, he⟩, hi, hne⟩ := st; ⟨⟨old, k e (by simp) _ he⟩, hi.at fun o q => k it (by simp) o q, hne⟩
  item := by
    intro X hP hw hK hc i pins s σ H E I hf st hg
    subst hP hw hK
    obtain ⟨⟨old, he⟩, hit, hne, hat, hea⟩ := st
    obtain ⟨xs, x, hq, hx⟩ := hg
    obtain ⟨its, rv, p, hz⟩ := I.tuple hq
    have len := rv.length
    have hi : i < its.length := by have := (List.getElem?_eq_some_iff.mp hx).1; omega
    have hel : e < s.heap.objs.size := Heap.lt_size he
    have hil : it < s.heap.objs.size := by obtain ⟨_, q, _⟩ := hit; exact Heap.lt_size q
    have D := Draws.tuple (prog := X.prog) (w := X.w) (A := X.A.in1) (I.ok.hd hc) it a hat its.toArray
    refine wpAny_pyNext_enum_itemC D he ⟨hit, p⟩ (by simpa using hi) hne (by simp [hne, hea]) fun y h' tk hy ho st' hT hsz hk => ?_
    refine ⟨_, rfl, wpAny_letOwnedTupleGo_enum (s := { s with heap := h', toks := tk + 1 }) ho fun h'' he' sb => ?_⟩
    have hT2 : h''.get? s.heap.objs.size = some { cls := .type "tuple", data := .seq #[.int i tk, y] } := (sb.2 _ (Nat.ne_of_gt hel)).trans hT
    obtain ⟨u, hu, ru⟩ := rv.get hx
    have ey : y = u := by
      have z : its[i]? = some y := by simpa using hy
      rw [hu] at z
      exact (Option.some.inj z).symm
    subst ey
    have new : ObjOk X.prog X.w (upd H s.heap.objs.size (.tup [.int (i : Nat), x])) h'' s.heap.objs.size (.tup [.int (i : Nat), x]) :=
      ⟨by show 2 ≤ sizeLine; decide, [.int i tk, y], .cons ⟨_, rfl⟩ (.cons ru .nil), ⟨_, hT2, rfl, _, rfl⟩⟩
    have I1 : Inv X pins σ (upd H s.heap.objs.size (.tup [.int (i : Nat), x])) { s with heap := h'', toks := tk + 1 } :=
      I.turnedNew (ch := [e, it]) (fun b ob hb q => (sb.2 b (fun z => hb (by simp [z]))).trans (hk b ob (fun z => hb (by simp [z])) (fun z => hb (by simp [z])) q)) hf (Nat.le_refl _) new
    refine ⟨.ref s.heap.objs.size, _, I1, rfl, ⟨_, x, rfl, I.hok.fresh (Nat.le_refl _), rfl, fun ys hy => by rw [I.tuple_inj hy hq]; exact hx⟩, ⟨⟨y, ?_⟩, st'.1.at fun o q => (sb.2 it (Ne.symm hne)).trans q, hne, hat, hea⟩, fun b hb => ?_⟩
    · have e1 : ((i + 1 : Nat) : Int) = (i : Int) + 1 := by omega
      rw [e1]; exact he'
    · have hb' : b < s.heap.objs.size := by
        rcases (show b = e ∨ b = it by simpa using hb) with z | z
        · rw [z]; exact hel
        · rw [z]; exact hil
      rw [upd_ne (Nat.ne_of_lt hb')]
      exact (hf b hb).1
  done := by
    intro X hP hw hK hc i pins s σ H E I hf st hg
    subst hP hw hK
    obtain ⟨⟨old, he⟩, hit, hne, hat, hea⟩ := st
    obtain ⟨xs, hq, hx⟩ := hg
    obtain ⟨its, rv, p, hz⟩ := I.tuple hq
    obtain ⟨f0, f1, f2, f3, f4, f5⟩ := hf it (by simp)
    have len := rv.length
    have D : Draws X.prog X.w X.A.in1 it [it, a] i (fun _ _ => True) (fun j h => j = i ∧ h.IsTupleIter it a i ∧ h.IsTuple a its.toArray) :=
      { live := fun _ _ st => let ⟨o, ho, _⟩ := st.2.1; ⟨o, ho⟩
        frame := fun _ _ _ st hk => ⟨st.1, st.2.1.at fun o e => hk it (by simp) o e, st.2.2.at fun o e => hk a (by simp) o e⟩
        item := fun j s Q E hj st _ => absurd st.1 (Nat.ne_of_lt hj)
        done := fun s Q E st hE => wpAny_nextOf_tuple_end (I.ok.hd hc) st.2.1 st.2.2 (by simp; omega) hE }
    exact wpAny_pyNext_enum_endD D he ⟨rfl, hit, p⟩ fun h' eb => ⟨rfl, I.turned (t' := s.toks) (fun b o hb q => eb b o hb q) f0 f1 f3 f4 f5⟩
  self := fun A i s Q E st h => let ⟨⟨_, he⟩, _⟩ := st; wpAny_pyIter_enum he h
def iEnumT (K : PySem.W.Frag) (ta : TA) : TI := fun σ H R => ta σ H fun vs H1 => ∃ a xs, vs = [.ref a] ∧ SqT K H1 a xs ∧ R (IteT K a) H1
theorem pi_enumT {X : Cx} {e : Expr} {ta : TA} {p pos tpos : Pos} {elts : List Expr} {kk : Nat} (hg : Gl X "enumerate") (hm : X.mg "enumerate" = none) (ha : PA X [e] ta) (hs : starEach [e] X.env = [(false, eval e X.env)] := by rfl) :
    PI X (.Tuple elts kk tpos) (.Call (.Name "enumerate" p) [e] [] pos) (iEnumT X.K ta) := by
  constructor
  intro pins s σ H R I h
  refine Call_ (ld_blt I hg hm boot_enumerate (PyProof.Rows.callWith_type1 (thn (ha.run pos pins s σ H _ I h) ?_) hs rfl))
  rintro us s1 ⟨vs, H1, I1, r1, a, xs, rfl, hq, q⟩
  cases r1 with
  | cons r rr =>
    cases rr
    cases r
    obtain ⟨its, rv, tu, hz⟩ := I1.tuple hq
    have al : a < s1.heap.objs.size := by obtain ⟨o, e, _⟩ := tu; exact Heap.lt_size e
    refine enum1_begins (begins_tuple a its.toArray) tu fun h' he hit hk => wpAny_pyIter_enum he ?_
    have I2 : Inv X pins σ H1 { s1 with heap := h' } := I1.kept (t' := s1.toks) hk
    refine ⟨s1.heap.objs.size + 1, [s1.heap.objs.size + 1, s1.heap.objs.size], _, _, H1, rfl, I2, turn_enumT a (s1.heap.objs.size + 1) s1.heap.objs.size, ⟨⟨.none, he⟩, ⟨_, hit, rfl, rfl⟩, Nat.succ_ne_self _, Nat.ne_of_lt al, (Nat.ne_of_lt (Nat.lt_succ_of_lt al)).symm⟩, fun b hb => ?_, q⟩
    have hle : s1.heap.objs.size ≤ b := by
      rcases (show b = s1.heap.objs.size + 1 ∨ b = s1.heap.objs.size by simpa using hb) with z | z
      · rw [z]; exact Nat.le_add_right _ _
      · rw [z]; exact Nat.le_refl _
    exact I1.fpOk hle (I1.hok.fresh hle)
theorem for_enumT {g : TG} {tb : TS} {D : Ends} {σ : L2.St} {H : Hp} {K : PySem.W.Frag} {a : Addr} {xs : List V} (Pv : Nat → L2.St → Hp → Prop) (h0 : Pv 0 σ H) (hl : ∀ i σ' H', i ≤ xs.length → Pv i σ' H' → SqT K H' a xs)
    (hs : ∀ i x σ' H' T, xs[i]? = some x → Pv i σ' H' → H' T = none → g (.ref T) σ' (upd H' T (.tup [.int (i : Nat), x])) fun σ2 H2 => tb { D with nx := Pv (i + 1), ct := Pv (i + 1), bk := D.nx } σ2 H2) (hd : ∀ σ' H', Pv xs.length σ' H' → D.nx σ' H') : forK g tb D σ (IteT K a) H := by
  refine ⟨fun i m σ H => i ≤ xs.length ∧ m = xs.length - i ∧ Pv i σ H, ⟨xs.length, Nat.zero_le _, by omega, h0⟩, ?_⟩
  rintro i m σ H ⟨hi, rfl, p⟩
  have hq := hl i σ H hi p
  rcases Nat.lt_or_ge i xs.length with h | h
  · refine Or.inr ⟨⟨xs, xs[i], hq, List.getElem?_eq_getElem h⟩, Pv (i + 1), fun σ' H' p' => ⟨xs.length - (i + 1), by omega, by omega, rfl, p'⟩, ?_⟩
    rintro v H' ⟨T, x, rfl, hT, rfl, hx⟩
    exact hs i x σ H T (hx xs hq) p hT
  · have e : i = xs.length := by omega
    subst e
    exact Or.inl ⟨⟨xs, hq, Nat.le_refl _⟩, hd σ H p⟩
end Mine
namespace Mine
open PySem PySem.Spec PyProof.Rows L2
open Evl (Ex)
structure FHeaps (K : PySem.W.Frag) : Prop where
  cl : Cls K (He.ga K "Heaps")
  na : NoAttr K (He.ga K "Heaps") "_sizes"
def hfs (t : Addr) : List (Str × V) := putF "_sizes" (.ref t) []
theorem hfs_get (t : Addr) : (hfs t).lookup ("_sizes" : Str) = some (.ref t) := by
  unfold hfs
  rw [lookup_putF, if_pos rfl]
theorem hfs_no (t : Addr) {m : Str} (h : ¬ m = "_sizes") : (hfs t).lookup m = none := by
  unfold hfs
  rw [lookup_putF, if_neg h]
  rfl
/-- a board of heaps -/
def HpAt (K : PySem.W.Frag) (H : Hp) (b : Addr) (ns : List Int) : Prop := ∃ dx t, H b = some (.ins (He.ga K "Heaps") dx (hfs t)) ∧ H t = some (.tup (ns.map V.int))
theorem HpAt.ex {K : PySem.W.Frag} {H H' : Hp} {b : Addr} {ns : List Int} (h : HpAt K H b ns) (e : Ex H H') : HpAt K H' b ns := let ⟨dx, t, h1, h2⟩ := h; ⟨dx, t, e _ _ h1, e _ _ h2⟩
def OkS (ns : List Int) : Prop := ns.length ≤ 8 ∧ ∀ z ∈ ns, 0 ≤ z ∧ z ≤ 30
end Mine
namespace Mine
open PySem PySem.Spec PyProof.Rows L2
open Evl (Ex)
/-- the sizes behind the moves, in order -/
def mvAt (ns : List Int) (i : Nat) : List (List Int) := (List.range (ns.getD i 0).toNat).map fun (j : Nat) => ns.take i ++ [(ns.getD i 0) - 1 - (j : Int)] ++ ns.drop (i + 1)
def mvs (ns : List Int) : List (List Int) := (List.range ns.length).flatMap (mvAt ns)
/-- boards of heaps of these sizes -/
def BsAt (K : PySem.W.Frag) (H : Hp) (xs : List V) (ss : List (List Int)) : Prop := xs.length = ss.length ∧ ∀ (i : Nat) (s : List Int), ss[i]? = some s → ∃ b, xs[i]? = some (.ref b) ∧ HpAt K H b s
theorem BsAt.ex {K : PySem.W.Frag} {H H' : Hp} {xs : List V} {ss : List (List Int)} (h : BsAt K H xs ss) (e : Ex H H') : BsAt K H' xs ss := ⟨h.1, fun i s q => let ⟨b, h1, h2⟩ := h.2 i s q; ⟨b, h1, h2.ex e⟩⟩
theorem BsAt.keep {K : PySem.W.Frag} {H H' : Hp} {xs : List V} {ss : List (List Int)} (h : BsAt K H xs ss) (k : ∀ c o, H c = some o → (∀ ys, o ≠ .lst ys) → H' c = some o) : BsAt K H' xs ss :=
  ⟨h.1, fun i s q => let ⟨b, h1, dx, t, h2, h3⟩ := h.2 i s q; ⟨b, h1, dx, t, k _ _ h2 (fun ys z => by cases z), k _ _ h3 (fun ys z => by cases z)⟩⟩
theorem BsAt.snoc {K : PySem.W.Frag} {H : Hp} {xs : List V} {ss : List (List Int)} {b : Addr} {s : List Int} (h : BsAt K H xs ss) (hb : HpAt K H b s) : BsAt K H (xs ++ [.ref b]) (ss ++ [s]) := by
  refine ⟨by rw [List.length_append, List.length_append, h.1]; rfl, fun i s' q => ?_⟩
  rcases Nat.lt_or_ge i ss.length with l | l
  · rw [List.getElem?_append_left l] at q
    obtain ⟨b', h1, h2⟩ := h.2 i s' q
    exact ⟨b', by rw [List.getElem?_append_left (by rw [h.1]; exact l)]; exact h1, h2⟩
  · have l2 := (List.getElem?_eq_some_iff.mp q).1
    rw [List.length_append, List.length_singleton] at l2
    have e : i = ss.length := by omega
    subst e
    rw [List.getElem?_append_right (Nat.le_refl _), Nat.sub_self] at q
    have e2 : s = s' := by injection q
    subst e2
    exact ⟨b, by rw [← h.1, List.getElem?_append_right (Nat.le_refl _), Nat.sub_self]; rfl, hb⟩
theorem okS_mv {ns : List Int} (ok : OkS ns) {i : Nat} (hi : i < ns.length) {j : Nat} (hj : j < (ns.getD i 0).toNat) : OkS (ns.take i ++ [(ns.getD i 0) - 1 - (j : Int)] ++ ns.drop (i + 1)) := by
  have hz : ns.getD i 0 ∈ ns := by
    rw [List.getD_eq_getElem?_getD, List.getElem?_eq_getElem hi]
    exact List.getElem_mem hi
  have bz := ok.2 _ hz
  refine ⟨?_, fun z m => ?_⟩
  · have := ok.1
    rw [List.length_append, List.length_append, List.length_take, List.length_drop, List.length_singleton]
    omega
  · rcases List.mem_append.mp m with m | m
    · rcases List.mem_append.mp m with m | m
      · exact ok.2 z (List.mem_of_mem_take m)
      · rw [List.mem_singleton.mp m]; omega
    · exact ok.2 z (List.mem_of_mem_drop m)
end Mine
namespace Mine
open PySem PySem.Spec PyProof.Rows L2
section
variable {σ : L2.St} {H : Hp} {K : PySem.W.Frag}
theorem k_star {te : TE} {t : TA} {Q : List V → Hp → Prop} (q : te σ H fun y H1 => ∃ a xs, y = V.ref a ∧ (SqT K H1 a xs ∨ SqL K H1 a xs) ∧ t σ H1 fun vs H2 => Q (xs ++ vs) H2) : StX.tStar K te t σ H Q := q
theorem k_enumT {ta : TA} {R : It → Hp → Prop} (q : ta σ H fun vs H1 => ∃ a xs, vs = [.ref a] ∧ SqT K H1 a xs ∧ R (IteT K a) H1) : iEnumT K ta σ H R := q
end
end Mine
namespace Mine
open PySem PySem.Spec PyProof.Rows L2
open Evl (Ex)
theorem k_slA {K : PySem.W.Frag} {H : Hp} {Q : VK} {a : Addr} {xs : List V} {lo hi : Option Int} (h : SqT K H a xs) (q : ∀ p H', Ex H H' → SqT K H' p (cutV xs lo hi) → Q (.ref p) H') : rSlA K (.ref a) lo hi H Q := by
  refine ⟨a, xs, rfl, h, fun w => q a H (Evl.Ex.refl H) ?_, fun _ p n => q p _ (Evl.Ex.new n) (k_st upd_same)⟩
  have e : cutV xs lo hi = xs := by
    unfold cutV
    rw [w.1, w.2, List.drop_zero, Nat.sub_zero, List.take_of_length_le (Nat.le_refl _)]
  rw [e]; exact h
theorem cut_to {ns : List Int} {i : Nat} (h : i ≤ ns.length) : cutV (ns.map V.int) none (some (i : Int)) = (ns.take i).map V.int := by
  unfold cutV
  rw [HT.sIx_none, HT.sIx_nat, List.length_map, Nat.min_eq_left h, List.drop_zero, Nat.sub_zero, List.map_take]
theorem cut_on {ns : List Int} {i : Nat} (h : i ≤ ns.length) : cutV (ns.map V.int) (some (i : Int)) none = (ns.drop i).map V.int := by
  unfold cutV
  rw [HT.sIx_none, HT.sIx_nat, List.length_map, Nat.min_eq_left h, List.take_of_length_le (by rw [List.length_drop, List.length_map]; exact Nat.le_refl _), List.map_drop]
end Mine
namespace Mine
open PySem PySem.Spec PyProof.Rows L2
open Evl (Ex)
theorem k_slH {K : PySem.W.Frag} {H : Hp} {Q : VK} {a : Addr} {xs : List V} {lo hi : Option Int} (h : H a = some (.tup xs)) (q : ∀ p H', Ex H H' → H' p = some (.tup (cutV xs lo hi)) → Q (.ref p) H') : rSlA K (.ref a) lo hi H Q := by
  refine ⟨a, xs, rfl, k_st h, fun w => q a H (Evl.Ex.refl H) ?_, fun _ p n => q p _ (Evl.Ex.new n) upd_same⟩
  have e : cutV xs lo hi = xs := by
    unfold cutV
    rw [w.1, w.2, List.drop_zero, Nat.sub_zero, List.take_of_length_le (Nat.le_refl _)]
  rw [e]; exact h
theorem k_catH {K : PySem.W.Frag} {H : Hp} {Q : VK} {a b : Addr} {xs ys : List V} (h1 : H a = some (.tup xs)) (h2 : H b = some (.tup ys)) (l : xs.length + ys.length ≤ sizeLine) (q : ∀ p H', Ex H H' → H' p = some (.tup (xs ++ ys)) → Q (.ref p) H') : rCatA K (.ref a) (.ref b) H Q :=
  ⟨a, b, xs, ys, rfl, rfl, k_st h1, k_st h2, l, fun e => q b H (Evl.Ex.refl H) (by rw [e]; exact h2), fun _ e => q a H (Evl.Ex.refl H) (by rw [e, List.append_nil]; exact h1), fun _ _ p n => q p _ (Evl.Ex.new n) upd_same⟩
/-- the pairs that are due -/
def DuP (H : Hp) (d : Addr) (s : List Int) : Prop := ∃ u, H d = some (.tup [.str "heaps", .ref u]) ∧ H u = some (.tup (s.map V.int))
theorem DuP.ex {H H' : Hp} {d : Addr} {s : List Int} (h : DuP H d s) (e : Ex H H') : DuP H' d s := let ⟨u, h1, h2⟩ := h; ⟨u, e _ _ h1, e _ _ h2⟩
def DsAt (H : Hp) (xs : List V) (ss : List (List Int)) : Prop := xs.length = ss.length ∧ ∀ (i : Nat) (s : List Int), ss[i]? = some s → ∃ b, xs[i]? = some (.ref b) ∧ DuP H b s
theorem DsAt.ex {H H' : Hp} {xs : List V} {ss : List (List Int)} (h : DsAt H xs ss) (e : Ex H H') : DsAt H' xs ss := ⟨h.1, fun i s q => let ⟨b, h1, h2⟩ := h.2 i s q; ⟨b, h1, h2.ex e⟩⟩
theorem DsAt.keep {H H' : Hp} {xs : List V} {ss : List (List Int)} (h : DsAt H xs ss) (k : ∀ c o, H c = some o → (∀ ys, o ≠ .lst ys) → H' c = some o) : DsAt H' xs ss :=
  ⟨h.1, fun i s q => let ⟨b, h1, u, h2, h3⟩ := h.2 i s q; ⟨b, h1, u, k _ _ h2 (fun ys z => by cases z), k _ _ h3 (fun ys z => by cases z)⟩⟩
theorem DsAt.snoc {H : Hp} {xs : List V} {ss : List (List Int)} {b : Addr} {s : List Int} (h : DsAt H xs ss) (hb : DuP H b s) : DsAt H (xs ++ [.ref b]) (ss ++ [s]) := by
  refine ⟨by rw [List.length_append, List.length_append, h.1]; rfl, fun i s' q => ?_⟩
  rcases Nat.lt_or_ge i ss.length with l | l
  · rw [List.getElem?_append_left l] at q
    obtain ⟨b', h1, h2⟩ := h.2 i s' q
    exact ⟨b', by rw [List.getElem?_append_left (by rw [h.1]; exact l)]; exact h1, h2⟩
  · have l2 := (List.getElem?_eq_some_iff.mp q).1
    rw [List.length_append, List.length_singleton] at l2
    have e : i = ss.length := by omega
    subst e
    rw [List.getElem?_append_right (Nat.le_refl _), Nat.sub_self] at q
    have e2 : s = s' := by injection q
    subst e2
    exact ⟨b, by rw [← h.1, List.getElem?_append_right (Nat.le_refl _), Nat.sub_self]; rfl, hb⟩
end Mine
namespace Mine
open PySem PySem.Spec PyProof.Rows L2
/-! dicts whose keys are pairs of tuples of ints and whose values are ints -/
abbrev Pr := List Int × List Int
def keyOf (p : Pr) : NestedKey := .tup [.tup (p.1.map .num), .tup (p.2.map .num)]
theorem nums_inj : ∀ {a b : List Int}, a.map NestedKey.num = b.map NestedKey.num → a = b
  | [], [], _ => rfl
  | [], _ :: _, e => by simp at e
  | _ :: _, [], e => by simp at e
  | x :: xs, y :: ys, e => by
    rw [List.map_cons, List.map_cons] at e
    injection e with e1 e2
    injection e1 with e1
    rw [e1, nums_inj e2]
theorem keyOf_inj {p q : Pr} (h : keyOf p = keyOf q) : p = q := by
  unfold keyOf at h
  injection h with h
  injection h with h1 h2
  injection h2 with h2 _
  injection h1 with h1
  injection h2 with h2
  exact Prod.ext (nums_inj h1) (nums_inj h2)
theorem nums_flat : ∀ l : List Int, NestedKey.depthAll (l.map .num) = 0
  | [] => rfl
  | x :: l => by
    rw [List.map_cons, NestedKey.depthAll, nums_flat l]
    rfl
theorem keyOf_deep (p : Pr) : (keyOf p).depth ≤ 8 := by
  unfold keyOf
  simp only [NestedKey.depth, NestedKey.depthAll, nums_flat]
  decide
/-- the tuple at b is the pair p of tuples of ints -/
def PrT (H : Hp) (b : Addr) (p : Pr) : Prop := ∃ c d, H b = some (.tup [.ref c, .ref d]) ∧ H c = some (.tup (p.1.map V.int)) ∧ H d = some (.tup (p.2.map V.int))
theorem PrT.ex {H H' : Hp} {b : Addr} {p : Pr} (t : PrT H b p) (k : ∀ c xs, H c = some (.tup xs) → H' c = some (.tup xs)) : PrT H' b p :=
  let ⟨c, d, h1, h2, h3⟩ := t
  ⟨c, d, k _ _ h1, k _ _ h2, k _ _ h3⟩
theorem nested_ints {h : Heap} : ∀ {ns : List Int} {us : List Value}, Vals (ns.map V.int) us → NestedAll h (ns.map .num) us
  | [], _, r => by rw [List.map_nil] at r; cases r; exact .nil
  | n :: ns, _, r => by
    rw [List.map_cons] at r
    cases r with
    | cons h t =>
      obtain ⟨tk, rfl⟩ := h
      exact .cons (.int n tk) (nested_ints t)
section
variable {P : Program} {w : World} {H : Hp} {h : Heap} {a b : Addr} {p : Pr}
theorem nested_tup {ns : List Int} (ok : HOk P w H h) (e : H a = some (.tup (ns.map V.int))) : NestedIs h (.tup (ns.map .num)) (.ref a) := by
  obtain ⟨_, its, r, o, h1, h2, n, h3⟩ := (show ObjOk P w H h a (.tup (ns.map V.int)) from ok a _ e)
  exact .tup h1 h2 h3 (by simpa using nested_ints r)
theorem PrT.key (t : PrT H b p) (ok : HOk P w H h) : (nestedKind P w).is h (keyOf p) b := by
  obtain ⟨c, d, e, ec, ed⟩ := t
  refine ⟨?_, keyOf_deep p⟩
  obtain ⟨_, its, r, o, h1, h2, n, h3⟩ := (show ObjOk P w H h b (.tup [.ref c, .ref d]) from ok b _ e)
  cases r with
  | cons r1 t1 =>
    cases t1 with
    | cons r2 t2 =>
      cases t2
      cases r1
      cases r2
      exact .tup h1 h2 h3 (.cons (nested_tup ok ec) (.cons (nested_tup ok ed) .nil))
end
abbrev Ent := Pr × Addr × Int
abbrev NP : List Ent → List (NestedKey × Addr × Value) → Prop := Paired fun p q => q.1 = keyOf p.1 ∧ q.2.1 = p.2.1 ∧ ∃ t, q.2.2 = Value.int p.2.2 t
def look (kvs : List Ent) (p : Pr) : Option Int := (kvs.find? fun e => decide (e.1 = p)).map (·.2.2)
theorem NP.look {kvs : List Ent} {xs : List (NestedKey × Addr × Value)} (r : NP kvs xs) (p : Pr) : RelO ((look kvs p).map V.int) ((atKey xs (keyOf p)).map (·.2)) := by
  induction r with
  | nil => exact True.intro
  | @cons e q es qs h t ih =>
    obtain ⟨h1, h2, tk, h3⟩ := h
    by_cases z : e.1 = p
    · have b : atKey (q :: qs) (keyOf p) = some q.2 := by simp [atKey, List.find?_cons, h1, z]
      have c : Mine.look (e :: es) p = some e.2.2 := by simp [Mine.look, List.find?_cons, z]
      rw [b, c]
      exact ⟨tk, h3⟩
    · have z' : ¬ q.1 = keyOf p := fun y => z (keyOf_inj (h1.symm.trans y))
      have b : atKey (q :: qs) (keyOf p) = atKey qs (keyOf p) := by simp [atKey, List.find?_cons, z']
      have c : Mine.look (e :: es) p = Mine.look es p := by simp [Mine.look, List.find?_cons, z]
      rw [b, c]
      exact ih
theorem NP.none_of {kvs : List Ent} {xs : List (NestedKey × Addr × Value)} (r : NP kvs xs) {p : Pr} (h : Mine.look kvs p = none) : atKey xs (keyOf p) = none := by
  have z := NP.look r p
  rw [h] at z
  cases q : atKey xs (keyOf p) with
  | none => rfl
  | some y => rw [q] at z; exact z.elim
theorem NP.len {kvs : List Ent} {xs : List (NestedKey × Addr × Value)} (r : NP kvs xs) : kvs.length = xs.length := Paired.length r
/-- what stands at a -/
def NdR (P : Program) (w : World) (h : Heap) (a : Addr) (kvs : List Ent) : Prop := kvs.length ≤ sizeLine ∧ (a == sysModules) = false ∧ ∃ xs : List (NestedKey × Addr × Value), NP kvs xs ∧
  ∃ o es ep, h.get? a = some o ∧ o.ExactDict ∧ o.data = .dict es ep ∧ es.toList = xs.map (entryOfKey (nestedKind P w)) ∧ (xs.map (·.1)).Nodup
def NdO (P : Program) (w : World) (a : Addr) (kvs : List Ent) : HO := .ext fun h => NdR P w h a kvs
def Keys (H : Hp) (kvs : List Ent) : Prop := ∀ e ∈ kvs, PrT H e.2.1 e.1
theorem NP.keys {P : Program} {w : World} {H : Hp} {h : Heap} (ok : HOk P w H h) {kvs : List Ent} {xs : List (NestedKey × Addr × Value)} (r : NP kvs xs) : (∀ e ∈ kvs, PrT H e.2.1 e.1) → ∀ x ∈ xs, (nestedKind P w).is h x.1 x.2.1 := by
  induction r with
  | nil => intro _ x hx; exact nomatch hx
  | @cons e q es qs hq t ih =>
    intro k x hx
    rcases List.mem_cons.mp hx with z | hx
    · subst z
      obtain ⟨h1, h2, _⟩ := hq
      rw [h1, h2]
      exact (k e List.mem_cons_self).key ok
    · exact ih (fun e' m => k e' (List.mem_cons_of_mem _ m)) x hx
theorem nd_at {P : Program} {w : World} {H : Hp} {h : Heap} {a : Addr} {kvs : List Ent} (ok : HOk P w H h) (e : H a = some (NdO P w a kvs)) (k : Keys H kvs) :
    kvs.length ≤ sizeLine ∧ (a == sysModules) = false ∧ ∃ xs, NP kvs xs ∧ h.DictOfH (nestedKind P w) a xs := by
  obtain ⟨z, y, xs, r, o, es, ep, h1, h2, h3, h4, h5⟩ := (ok a _ e).1
  exact ⟨z, y, xs, r, o, es, ep, h1, h2, h3, h4, NP.keys ok r k, h5⟩
theorem nd_new {P : Program} {w : World} {H : Hp} {h : Heap} {a : Addr} {kvs : List Ent} (R : NdR P w h a kvs) : ObjOk P w H h a (NdO P w a kvs) := by
  have ⟨_, _, _, _, o, _, _, ho, _⟩ := R
  refine ⟨R, ⟨o, ho⟩, fun h1 h2 p k => ?_⟩
  obtain ⟨z, y, xs, r, o, es, ep, g1, g⟩ := p
  exact ⟨z, y, xs, r, o, es, ep, k _ g1, g⟩
section
variable {X : Cx} {pins : List (Addr × Obj)} {σ : L2.St} {H : Hp} {s : Shared} {a b : Addr} {kvs : List Ent} {p : Pr} {A : Around} {E : Value → Shared → Prop}
theorem n_get {v : Int} {Q : Value → Shared → Prop} (hu : A.units + 9 < cLine) (I : Inv X pins σ H s) (e : H a = some (NdO X.prog X.w a kvs)) (k : Keys H kvs) (kb : PrT H b p) (l : look kvs p = some v)
    (h : ∀ w' s', Inv X pins σ H s' → RelV (.int v) w' → Q w' s') : wpAny (model X.prog X.w) A (getItem (.ref a) (.ref b)) Q E s := by
  obtain ⟨z, hd, xs, r, dd⟩ := nd_at I.hok e k
  have rl := NP.look r p
  rw [l] at rl
  cases q : atKey xs (keyOf p) with
  | none => rw [q] at rl; exact rl.elim
  | some y =>
    rw [q] at rl
    exact wpAny_getItem_heap (knd := nestedKind X.prog X.w) (show A.in1.units + 8 < cLine by rw [Around.in1_units]; omega) (kb.key I.hok) dd q (h y.2 _ (I.tok _) rl)
theorem n_notin {Q : Value → Shared → Prop} (hu : A.units + 9 < cLine) (I : Inv X pins σ H s) (e : H a = some (NdO X.prog X.w a kvs)) (k : Keys H kvs) (kb : PrT H b p)
    (h : ∀ s', Inv X pins σ H s' → Q (.bool (!(look kvs p).isSome)) s') : wpAny (model X.prog X.w) A (compareOp .NotIn (.ref b) (.ref a)) Q E s := by
  obtain ⟨z, hd, xs, r, dd⟩ := nd_at I.hok e k
  refine wpAny_notIn_heap (knd := nestedKind X.prog X.w) (show A.in1.units + 8 < cLine by rw [Around.in1_units]; omega) (kb.key I.hok) hd dd ?_
  have rl := NP.look r p
  have e2 : (atKey xs (keyOf p)).isSome = (look kvs p).isSome := by
    cases q : atKey xs (keyOf p) with
    | none =>
      cases q2 : look kvs p with
      | none => rfl
      | some v => rw [q, q2] at rl; exact rl.elim
    | some y =>
      cases q2 : look kvs p with
      | none => rw [q, q2] at rl; exact rl.elim
      | some v => rfl
  rw [e2]
  exact h _ (I.tok _)
theorem n_put {v : Int} {u : Value} {Q : Unit → Shared → Prop} (hu : A.units + 9 < cLine) (I : Inv X pins σ H s) (e : H a = some (NdO X.prog X.w a kvs)) (k : Keys H kvs) (kb : PrT H b p) (l : look kvs p = none) (hl : kvs.length < sizeLine) (ru : RelV (.int v) u)
    (h : ∀ s', Inv X pins σ (upd H a (NdO X.prog X.w a (kvs ++ [(p, b, v)]))) s' → Q () s') : wpAny (model X.prog X.w) A (setItem (.ref a) (.ref b) u) Q E s := by
  obtain ⟨z, hd, xs, r, dd⟩ := nd_at I.hok e k
  have hz : xs.length ≤ sizeLine := by rw [← NP.len r]; exact z
  have hn := NP.none_of r l
  refine wpAny_setItem_heap (hsz := hz) (knd := nestedKind X.prog X.w) (show A.in1.units + 8 < cLine by rw [Around.in1_units]; omega) (kb.key I.hok) dd fun h' dd' hs => h _ ?_
  rw [storedH_new hn] at dd'
  obtain ⟨q, es, ep, hq, h2, h3, h4, _, h5⟩ := dd'
  refine I.write (x := a) (e := a) (by rw [e]; exact True.intro) (.inl rfl) (fun c u hc y => (hs.2 c hc).trans y) ⟨q, hq⟩ (nd_new ⟨?_, hd, _, Paired.snoc r ⟨rfl, rfl, (show ∃ tk, u = Value.int v tk from ru)⟩, q, es, ep, hq, h2, h3, h4, h5⟩)
  rw [List.length_append, List.length_singleton]
  omega
end
/-! readings and rules -/
/-- d[k] -/
def tNGet (P : Program) (w : World) (td ty : TE) : TE := fun σ H Q => td σ H fun x H1 => ty σ H1 fun y H2 => ∃ a b kvs p v, x = V.ref a ∧ y = V.ref b ∧ H2 a = some (NdO P w a kvs) ∧ Keys H2 kvs ∧ PrT H2 b p ∧ look kvs p = some v ∧ Q (.int v) H2
/-- k not in d -/
def tNNot (P : Program) (w : World) (ty td : TE) : TE := fun σ H Q => ty σ H fun y H1 => td σ H1 fun x H2 => ∃ a b kvs p, x = V.ref a ∧ y = V.ref b ∧ H2 a = some (NdO P w a kvs) ∧ Keys H2 kvs ∧ PrT H2 b p ∧ Q (.bl (!(look kvs p).isSome)) H2
/-- d[k] = v, a new key -/
def sNPut (P : Program) (w : World) (td ty tv : TE) : TS := fun D σ H => tv σ H fun z H1 => td σ H1 fun x H2 => ty σ H2 fun y H3 => ∃ a b kvs p v, z = V.int v ∧ x = V.ref a ∧ y = V.ref b ∧ H3 a = some (NdO P w a kvs) ∧ Keys H3 kvs ∧ PrT H3 b p ∧ look kvs p = none ∧
  kvs.length < sizeLine ∧ D.nx σ (upd H3 a (NdO P w a (kvs ++ [(p, b, v)])))
/-- {k: v} -/
def tNDisp (P : Program) (w : World) (tk tv : TE) : TE := fun σ H Q => ∀ d, H d = none → tk σ (upd H d (NdO P w d [])) fun y H1 => tv σ H1 fun z H2 => ∃ b p v, y = V.ref b ∧ z = V.int v ∧ H2 d = some (NdO P w d []) ∧ PrT H2 b p ∧
  Q (.ref d) (upd H2 d (NdO P w d [(p, b, v)]))
section
variable {X : Cx} {o i e value : Expr} {pos pos' : Pos} {td ty tv tk : TE}
theorem nd_type {P : Program} {w : World} {s : Shared} {H : Hp} {a : Addr} {kvs : List Ent} (ok : HOk P w H s.heap) (e : H a = some (NdO P w a kvs)) : s.TypeIs (.ref a) "dict" := by
  obtain ⟨_, _, _, _, o, es, ep, h1, h2, _⟩ := (ok a _ e).1
  exact ⟨o, h1, h2.1⟩
theorem pe_nget (hu : X.A.units + 9 < cLine) (ho : PE X o td) (hi : PE X i ty) (hs : NoSl i) : PE X (.Subscript o i pos) (tNGet X.prog X.w td ty) := by
  refine ⟨fun pins s σ H Q I h => ?_⟩
  refine subD_of PySem.F.slot_dict_getitem.lookup hs (thn (ho.run pins s σ H _ I h) fun u s1 z1 => ?_)
  obtain ⟨x, H1, I1, rx, q1⟩ := z1
  refine thn (hi.run pins s1 σ H1 _ I1 q1) fun iv s2 z2 => ?_
  obtain ⟨y, H2, I2, ry, a, b, kvs, p, v, ex, ey, g, kk, kb, l, q2⟩ := z2
  subst ex ey
  obtain rfl : u = Value.ref a := rx
  obtain rfl : iv = Value.ref b := ry
  exact ⟨nd_type I2.hok g, n_get hu I2 g kk kb l fun w' s3 I3 rw' => ⟨.int v, H2, I3, rw', q2⟩⟩
theorem pc_nnot (hu : X.A.units + 9 < cLine) (hi : PE X i ty) (ho : PE X o td) : PC X .NotIn i o (tNNot X.prog X.w ty td) := by
  refine ⟨fun pins s σ H Q I h => ?_⟩
  refine thn (hi.run pins s σ H _ I h) fun iv s1 z1 => ?_
  obtain ⟨y, H1, I1, ry, q1⟩ := z1
  refine thn (ho.run pins s1 σ H1 _ I1 q1) fun u s2 z2 => ?_
  obtain ⟨x, H2, I2, rx, a, b, kvs, p, ex, ey, g, kk, kb, q2⟩ := z2
  subst ex ey
  obtain rfl : u = Value.ref a := rx
  obtain rfl : iv = Value.ref b := ry
  exact n_notin hu I2 g kk kb fun s3 I3 => ⟨.bl (!(look kvs p).isSome), H2, I3, rfl, q2⟩
theorem ps_nput (hu : X.A.units + 9 < cLine) (ho : PE X o td) (hi : PE X i ty) (hv : PE X value tv) (hs : swapsWith value (some (.Subscript o i pos')) pos.line X.env = pure false) :
    PS X (.Assign [.Subscript o i pos'] value pos) (sNPut X.prog X.w td ty tv) := by
  refine ⟨fun pins s σ H D I h => ?_⟩
  refine wpAny_Assign_Subscript (thn (hv.run pins s σ H _ I h) fun r s1 z1 => ?_) hs
  obtain ⟨z, H1, I1, rv, q1⟩ := z1
  refine thn (ho.run pins s1 σ H1 _ I1 q1) fun u s2 z2 => ?_
  obtain ⟨x, H2, I2, rx, q2⟩ := z2
  refine thn (hi.run pins s2 σ H2 _ I2 q2) fun iv s3 z3 => ?_
  obtain ⟨y, H3, I3, ry, a, b, kvs, p, v, ez, ex, ey, g, kk, kb, l, hl, q3⟩ := z3
  subst ex ey ez
  obtain rfl : u = Value.ref a := rx
  obtain rfl : iv = Value.ref b := ry
  exact n_put hu I3 g kk kb l hl rv fun s4 I4 => ⟨σ, _, I4, q3⟩
theorem pe_ndisp {k v : Expr} (hu : X.A.units + 9 < cLine) (hk : PE X k tk) (hv : PE X v tv) : PE X (.Dict [some k] [v] pos) (tNDisp X.prog X.w tk tv) := by
  refine ⟨fun pins s σ H Q I h => ?_⟩
  have hn := I.hok.fresh (Nat.le_refl s.heap.objs.size)
  have hb := I.big
  have R0 : NdR X.prog X.w (s.heap.push { cls := .type "dict", data := .dict #[] }) s.heap.objs.size [] :=
    ⟨Nat.zero_le _, beq_eq_false_iff_ne.mpr (Ne.symm (Nat.ne_of_lt hb)), [], .nil, _, #[], 0, Heap.get?_push_size _ rfl, ⟨rfl, rfl, rfl⟩, rfl, rfl, List.nodup_nil⟩
  have I1 := I.laid (a := s.heap.objs.size) (o := NdO X.prog X.w s.heap.objs.size []) (h' := s.heap.push { cls := .type "dict", data := .dict #[] }) (t' := s.toks) (fun _ _ q => Heap.get?_push_of_some _ q) (Nat.le_refl _) (nd_new R0)
  refine wpAny_Dict_any rfl rfl (by simp) (show 1 ≤ 15 by decide) ?_
  refine pairTrees_cons_walk (thn (hk.run pins _ σ _ _ I1 (h _ hn)) fun u s1 z1 => ?_)
  obtain ⟨y, H1, I2, ry, q1⟩ := z1
  refine thn (hv.run pins s1 σ H1 _ I2 q1) fun u2 s2 z2 => ?_
  obtain ⟨z, H2, I3, rz, b, p, n, ey, ez, g, kb, q2⟩ := z2
  subst ey ez
  obtain rfl : u = Value.ref b := ry
  refine pairTrees_nil_walk ?_
  unfold storeAll
  rw [List.forIn_cons]
  obtain ⟨zz, hd, xs, r, dd⟩ := nd_at I3.hok g (fun e m => nomatch m)
  cases r
  refine wpAny_bind (wpAny_bind (wpAny_dictSet_heap (hsz := Nat.zero_le _) (knd := nestedKind X.prog X.w) (show X.A.units + 8 < cLine by omega) (kb.key I3.hok) dd fun h' dd' hs => ?_))
  refine wpAny_pure ?_
  dsimp only
  rw [List.forIn_nil]
  refine wpAny_pure ⟨.ref s.heap.objs.size, _, ?_, rfl, q2⟩
  rw [storedH_new rfl] at dd'
  obtain ⟨q, es, ep, hq, h2, h3, h4, _, h5⟩ := dd'
  exact I3.write (x := s.heap.objs.size) (e := s.heap.objs.size) (by rw [g]; exact True.intro) (.inl rfl) (fun c u hc y => (hs.2 c hc).trans y) ⟨q, hq⟩ (nd_new ⟨(show 1 ≤ sizeLine by decide), hd, _, .cons ⟨rfl, rfl, (show ∃ tk, u2 = Value.int n tk from rz)⟩ .nil, q, es, ep, hq, h2, h3, h4, h5⟩)
end
end Mine
namespace Mine
open PySem PySem.Spec PyProof.Rows L2
open Sem (wp)
/-! set(xs) of a list of isI -/
abbrev emO (w : World) : Obj := { cls := .type "set", dict := none, data := .set #[] 0 (.fresh 0 0 (!w.params.followText "set-order")) }
section
variable {P : Program} {w : World} {A : Around} {E : Value → Shared → Prop} {s : Shared}
/-- the new set S holds the isI of ns, all else is kept -/
structure Filled (w : World) (h h' : Heap) (S : Addr) (ns : List Int) (c : Nat) : Prop where
  set : SetR w h' S (fun j => decide (j ∈ ns)) c
  few : c ≤ ns.length
  old : ∀ b o, h.get? b = some o → h'.get? b = some o
set_option maxHeartbeats 3200000 in
theorem set_of_ints {l : Addr} {xs : Array Value} (ns : List Int) {Q : Value → Shared → Prop} (calm : A.handled = none) (at_l : s.heap.IsList l xs) (isI : IntsAre xs.toList ns) (room : ns.length + 1 < scanBound)
    (q : ∀ (g : Heap) (tk c : Nat), Filled w s.heap g s.heap.objs.size ns c → Q (.ref s.heap.objs.size) { s with heap := g, toks := tk }) : wpAny (model P w) A (call (.type "set") [.ref l]) Q E s := by
  have many : xs.size = ns.length := by rw [← IntsAre.length isI, Array.length_toList]
  let h1 : Heap := s.heap.push (emO w)
  have hd : h1 = s.heap.push (emO w) := rfl
  have zS : h1.get? s.heap.objs.size = some (emO w) := Heap.get?_push_size _ rfl
  have sz1 : h1.objs.size = s.heap.objs.size + 1 := Heap.size_push ..
  have lt_l : l < s.heap.objs.size := let ⟨o, ho, _⟩ := at_l; Heap.lt_size ho
  have ty1 : Shared.TypeIs { s with heap := h1 } (.ref s.heap.objs.size) "set" := ⟨_, zS, rfl⟩
  have ls1 : h1.IsList l xs := at_l.push _
  clear_value h1
  obtain ⟨c0, t0, m0⟩ := F.called_set.mro
  have m1 := F.called_set.made; have m2 := F.called_set.sub; have m3 := F.called_set.notType; have m4 := F.called_set.canCreate
  have m5 := F.typeCall_set_1 (.ref l); have m6 := F.called_set.init.lookup; have m7 := F.called_set.init.bind (.ref s.heap.objs.size)
  refine wpAny_call (codeAny_of_tree (show wpAny _ _ (callAny (.type "set") _) _ _ _ from ?_))
  refine wpAny_pure ⟨Code.quiet_builtin _ (by decide +kernel), codeAny_builtin F.entry_type_call ?_⟩
  rw [Around.under_plain (weight_type_call_type "set" [.ref l] []) rfl]
  repeat (any_goals (first | assumption | wp_step))
  refine codeAny_mono (code_set_led1 (.ref l) (E := E) (Q₁ := fun v s' => v = .ref s.heap.objs.size ∧ s' = { s with heap := h1 }) ⟨rfl, by rw [hd]⟩) fun r s' hr => ?_
  rcases r with e | fl
  · exact hr
  cases fl with
  | ret v =>
    obtain ⟨rfl, rfl⟩ := hr
    repeat (any_goals (first | assumption | wp_step))
    refine codeAny_mono (codeAny_call_builtin (R := wants (fun v s' => v = .none ∧ ∃ g tk c, s' = { s with heap := g, toks := tk } ∧ Filled w s.heap g s.heap.objs.size ns c) E) F.called_set.init.plain F.entry_set_init (check_set_init_1 ty1 ?_)) fun r s' hr => ?_
    · obtain ⟨⟨oc, od, oa, os⟩, got, e1, n1, e2⟩ := at_l
      simp only at e1 e2
      subst e1; subst e2
      have got1 : h1.get? l = some { cls := .type "list", dict := od, data := .seq xs n1, slots := os } := by rw [hd]; exact Heap.get?_push_of_some _ got
      have k1 := F.sub_list_set; have k2 := F.sub_list_frozenset
      have k3 : (Value.type "list" == Value.type "dict") = false := by decide
      unfold Builtin.«set.__init__» noKeywords Builtin.Frozenset.updateFrom
      generalize hit : pyIter = IT
      wp_walk
      subst hit
      refine wpAny_pyIter_list ls1 (wpAny_bind (wpAny_runValue ?_))
      have calm3 : A.in1.in1.in1.handled = none := by simp [calm]
      have apart : l ≠ h1.objs.size := by rw [sz1]; exact Nat.ne_of_lt (Nat.lt_succ_of_lt lt_l)
      have notin : s.heap.objs.size ∉ [h1.objs.size, l] := by
        rw [sz1]
        intro m
        rcases List.mem_cons.mp m with e | m
        · exact absurd e (Nat.ne_of_lt (Nat.lt_succ_self _))
        · rw [List.mem_singleton] at m
          exact absurd lt_l (by rw [← m]; exact Nat.lt_irrefl _)
      refine set_update_ints ((Walks.list calm3 _ l apart xs).toS) s.heap.objs.size notin ns many room (fun i v hv => ?_) xs.size 0 _ (by omega) (Nat.zero_le _) ⟨⟨_, Heap.get?_push_size _ rfl, rfl, rfl⟩, ls1.push _⟩ ⟨0, Nat.le_refl 0, setR_new_at (Heap.get?_push_of_some _ zS)⟩ fun s' c moved le R => ?_
      · have hi : i < ns.length := by rw [← many]; exact (Array.getElem?_eq_some_iff.mp hv).1
        obtain ⟨t, e⟩ := PyProof.Rows.IntsAre.int_at isI i v (by rw [Array.getElem?_toList]; exact hv)
        exact ⟨ns[i], t, List.getElem?_eq_getElem hi, by rw [e, List.getD_eq_getElem?_getD, List.getElem?_eq_getElem hi]; rfl⟩
      · obtain ⟨g, g2, d2, tk, o2⟩ := s'
        obtain rfl : g2 = s.gens := moved.gens
        obtain rfl : d2 = s.drawn := moved.drawn
        obtain rfl : o2 = s.os := moved.os
        refine (show wpAny _ _ _ _ _ _ from wpAny_pure (show wpAny _ _ (ret Value.none) _ _ _ from wpAny_pure ⟨rfl, g, tk, c, rfl, R, by rw [← many]; exact le, fun b o e => ?_⟩))
        have lt := Heap.lt_size e
        refine moved.heap b o (fun m => ?_) (Heap.get?_push_of_some _ (by rw [hd]; exact Heap.get?_push_of_some _ e))
        rcases List.mem_cons.mp m with z | m
        · exact absurd lt (by rw [z]; exact Nat.lt_irrefl _)
        · rw [List.mem_singleton, sz1] at m
          exact absurd lt (by rw [m]; exact Nat.not_lt_of_le (Nat.le_succ _))
    · rcases r with e | fl
      · exact hr
      cases fl with
      | ret v =>
        obtain ⟨rfl, g, tk, c, rfl, R⟩ := hr
        repeat (any_goals (first | assumption | wp_step))
        exact q g tk c R
      | _ => exact hr.elim
  | _ => exact hr.elim
end
section
variable {X : Cx}
/-- set(xs), xs a list of ints -/
def rSetL (K : PySem.W.Frag) (w : World) : List V → Hp → VK → Prop := fun vs H Q => ∃ (l : Addr) (ns : List Int), vs = [V.ref l] ∧ SqL K H l (ns.map V.int) ∧ ns.length + 1 < scanBound ∧
  ∀ (p : Addr) (c : Nat), H p = none → c ≤ ns.length → Q (.ref p) (upd H p (SetO w p (fun j => decide (j ∈ ns)) c))
theorem cr_setL (hc : X.calm = true) : CallR X (.type "set") (rSetL X.K X.w) := by
  intro pins s σ H vs us Q I r h
  obtain ⟨l, ns, rfl, hl, hb, q⟩ := h
  rw [Vals.ref1 r]
  obtain ⟨its, rv, ⟨ob, n, ho, h1, _, h2⟩, hlen⟩ := I.list hl
  refine set_of_ints ns (I.ok.hd hc) ⟨ob, ho, h1, n, h2⟩ (ints_of_vals (by simpa using rv)) hb fun g tk c f => ?_
  have hn := I.hok.fresh (Nat.le_refl s.heap.objs.size)
  exact ⟨.ref s.heap.objs.size, _, I.laid (a := s.heap.objs.size) (o := SetO X.w s.heap.objs.size (fun j => decide (j ∈ ns)) c) (t' := tk) f.old (Nat.le_refl _) (setO_new f.set), rfl, q _ c hn f.few⟩
end
end Mine
namespace Mine
open PySem PySem.Spec PyProof.Rows L2
open Evl (Ex)
/-! yards: what stands in the heap -/
structure FYard (K : PySem.W.Frag) : Prop where
  cl : Cls K (He.ga K "Yard")
  nl : NoAttr K (He.ga K "Yard") "_lefts"
  nr : NoAttr K (He.ga K "Yard") "_rights"
  nh : NoAttr K (He.ga K "Yard") "_heights"
  nn : NoAttr K (He.ga K "Yard") "_numbers"
  nt : NoAttr K (He.ga K "Yard") "_turned"
structure Foot where
  y : Addr
  dx : Addr
  l : Addr
  r : Addr
  h : Addr
  n : Addr
  t : Addr
theorem klr : ¬ (("_lefts" : Str) = "_rights") := by decide +kernel
theorem klh : ¬ (("_lefts" : Str) = "_heights") := by decide +kernel
theorem kln : ¬ (("_lefts" : Str) = "_numbers") := by decide +kernel
theorem klt : ¬ (("_lefts" : Str) = "_turned") := by decide +kernel
theorem krh : ¬ (("_rights" : Str) = "_heights") := by decide +kernel
theorem krn : ¬ (("_rights" : Str) = "_numbers") := by decide +kernel
theorem krt : ¬ (("_rights" : Str) = "_turned") := by decide +kernel
theorem khn : ¬ (("_heights" : Str) = "_numbers") := by decide +kernel
theorem kht : ¬ (("_heights" : Str) = "_turned") := by decide +kernel
theorem knt : ¬ (("_numbers" : Str) = "_turned") := by decide +kernel
def yfs (F : Foot) : List (Str × V) := putF "_turned" (.ref F.t) (putF "_numbers" (.ref F.n) (putF "_heights" (.ref F.h) (putF "_rights" (.ref F.r) (putF "_lefts" (.ref F.l) []))))
theorem yfs_l (F : Foot) : (yfs F).lookup ("_lefts" : Str) = some (.ref F.l) := by
  unfold yfs
  rw [lookup_putF, if_neg klt, lookup_putF, if_neg kln, lookup_putF, if_neg klh, lookup_putF, if_neg klr, lookup_putF, if_pos rfl]
theorem yfs_r (F : Foot) : (yfs F).lookup ("_rights" : Str) = some (.ref F.r) := by
  unfold yfs
  rw [lookup_putF, if_neg krt, lookup_putF, if_neg krn, lookup_putF, if_neg krh, lookup_putF, if_pos rfl]
theorem yfs_h (F : Foot) : (yfs F).lookup ("_heights" : Str) = some (.ref F.h) := by
  unfold yfs
  rw [lookup_putF, if_neg kht, lookup_putF, if_neg khn, lookup_putF, if_pos rfl]
theorem yfs_n (F : Foot) : (yfs F).lookup ("_numbers" : Str) = some (.ref F.n) := by
  unfold yfs
  rw [lookup_putF, if_neg knt, lookup_putF, if_pos rfl]
theorem yfs_t (F : Foot) : (yfs F).lookup ("_turned" : Str) = some (.ref F.t) := by
  unfold yfs
  rw [lookup_putF, if_pos rfl]
theorem yfs_no (F : Foot) {m : Str} (h1 : ¬ m = "_turned") (h2 : ¬ m = "_numbers") (h3 : ¬ m = "_heights") (h4 : ¬ m = "_rights") (h5 : ¬ m = "_lefts") : (yfs F).lookup m = none := by
  unfold yfs
  rw [lookup_putF, if_neg h1, lookup_putF, if_neg h2, lookup_putF, if_neg h3, lookup_putF, if_neg h4, lookup_putF, if_neg h5]
  rfl
/-- refs to tuples of ints -/
def Rows (H : Hp) (xs : List V) (gs : List (List Int)) : Prop := xs.length = gs.length ∧ ∀ (i : Nat) (g : List Int), gs[i]? = some g → ∃ a, xs[i]? = some (.ref a) ∧ H a = some (.tup (g.map V.int))
theorem Rows.ex {H H' : Hp} {xs : List V} {gs : List (List Int)} (r : Rows H xs gs) (k : ∀ c ys, H c = some (.tup ys) → H' c = some (.tup ys)) : Rows H' xs gs :=
  ⟨r.1, fun i g e => let ⟨a, h1, h2⟩ := r.2 i g e; ⟨a, h1, k _ _ h2⟩⟩
theorem Rows.snoc {H : Hp} {xs : List V} {gs : List (List Int)} (r : Rows H xs gs) {a : Addr} {g : List Int} (e : H a = some (.tup (g.map V.int))) : Rows H (xs ++ [.ref a]) (gs ++ [g]) := by
  refine ⟨by rw [List.length_append, List.length_append, r.1]; rfl, fun i g' z => ?_⟩
  by_cases h : i < gs.length
  · rw [List.getElem?_append_left h] at z
    obtain ⟨b, h1, h2⟩ := r.2 i g' z
    exact ⟨b, by rw [List.getElem?_append_left (by rw [r.1]; exact h)]; exact h1, h2⟩
  · have hi : i = gs.length := by
      have := (List.getElem?_eq_some_iff.mp z).1
      rw [List.length_append, List.length_singleton] at this
      omega
    subst hi
    rw [List.getElem?_append_right (Nat.le_refl _), Nat.sub_self] at z
    have e2 : g' = g := by injection z with z; exact z.symm
    subst e2
    exact ⟨a, by rw [← r.1, List.getElem?_append_right (Nat.le_refl _), Nat.sub_self]; rfl, e⟩
/-- the entries of the dict of forms -/
def EntOf (G : List Pr) (kvs : List Ent) : Prop := kvs.length = G.length ∧ ∀ (i : Nat) (g : Pr), G[i]? = some g → ∃ b, kvs[i]? = some (g, b, (i : Int))
/-- a list of ints, strictly ascending, from 0 on below n -/
def Asc (n : Nat) (l : List Int) : Prop := l.Pairwise (· < ·) ∧ ∀ x ∈ l, 0 ≤ x ∧ x < (n : Int)
/-- the forms of a yard's games, one behind the other -/
structure Forms (G : List Pr) : Prop where
  zero : G[0]? = some ([], [])
  one : G.Nodup
  asc : ∀ (i : Nat) (g : Pr), G[i]? = some g → Asc i g.1 ∧ Asc i g.2
/-- the height k of a list of heights -/
def hat (hs : List Int) (k : Int) : Int := hs.getD k.toNat 0
/-- h is the height of the form g, by the heights of its options -/
def IsHt (hs : List Int) (g : Pr) (h : Int) : Prop := (g.1 ++ g.2 = [] ∧ h = 0) ∨ ∃ m, m ∈ (g.1 ++ g.2).map (hat hs) ∧ (∀ y ∈ (g.1 ++ g.2).map (hat hs), y ≤ m) ∧ h = 1 + m
def HtOk (G : List Pr) (hs : List Int) : Prop := ∀ (i : Nat) (g : Pr), G[i]? = some g → IsHt hs g (hat hs i)
structure YardAt (P : Program) (w : World) (K : PySem.W.Frag) (H : Hp) (F : Foot) (G : List Pr) (hv : List Int) (ts : List (Key × V)) : Prop where
  ins : H F.y = some (.ins (He.ga K "Yard") F.dx (yfs F))
  ls : ∃ xs, H F.l = some (.lst xs) ∧ Rows H xs (G.map (·.1))
  rs : ∃ xs, H F.r = some (.lst xs) ∧ Rows H xs (G.map (·.2))
  hs : H F.h = some (.lst (hv.map V.int)) ∧ hv.length = G.length
  ns : ∃ kvs, H F.n = some (NdO P w F.n kvs) ∧ Mine.Keys H kvs ∧ EntOf G kvs
  ts : H F.t = some (.dK ts)
  ne : F.l ≠ F.r ∧ F.l ≠ F.h ∧ F.r ≠ F.h
  ht : HtOk G hv
  G : Forms G
/-- not one of the yard's own objects -/
def Off (F : Foot) (c : Addr) : Prop := c ≠ F.l ∧ c ≠ F.r ∧ c ≠ F.h ∧ c ≠ F.n ∧ c ≠ F.t
/-- all but the yard's own objects stays -/
def Gr (F : Foot) (H H' : Hp) : Prop := ∀ c o, H c = some o → Off F c → H' c = some o
theorem Gr.refl (F : Foot) (H : Hp) : Gr F H H := fun _ _ h _ => h
theorem Gr.trans {F : Foot} {H H1 H2 : Hp} (a : Gr F H H1) (b : Gr F H1 H2) : Gr F H H2 := fun c o h f => b c o (a c o h f) f
theorem Gr.of {F : Foot} {H H' : Hp} (e : Ex H H') : Gr F H H' := fun c o h _ => e c o h
section
variable {P : Program} {w : World} {K : PySem.W.Frag} {H H' : Hp} {F : Foot} {G : List Pr} {hs : List Int} {ts : List (Key × V)}
theorem YardAt.ex (Y : YardAt P w K H F G hs ts) (e : Ex H H') : YardAt P w K H' F G hs ts :=
  ⟨e _ _ Y.ins, let ⟨xs, h1, h2⟩ := Y.ls; ⟨xs, e _ _ h1, h2.ex fun c ys => e c _⟩, let ⟨xs, h1, h2⟩ := Y.rs; ⟨xs, e _ _ h1, h2.ex fun c ys => e c _⟩, ⟨e _ _ Y.hs.1, Y.hs.2⟩,
    let ⟨kvs, h1, h2, h3⟩ := Y.ns; ⟨kvs, e _ _ h1, fun x m => (h2 x m).ex fun c ys => e c _, h3⟩, e _ _ Y.ts, Y.ne, Y.ht, Y.G⟩
/-- a fresh address is off -/
theorem YardAt.fresh (Y : YardAt P w K H F G hs ts) {c : Addr} (h : H c = none) : Off F c := by
  obtain ⟨xs, hl, _⟩ := Y.ls
  obtain ⟨ys, hr, _⟩ := Y.rs
  obtain ⟨kvs, hn, _⟩ := Y.ns
  exact ⟨(ne_of_none hl h).symm, (ne_of_none hr h).symm, (ne_of_none Y.hs.1 h).symm, (ne_of_none hn h).symm, (ne_of_none Y.ts h).symm⟩
/-- a tuple is off -/
theorem YardAt.tup (Y : YardAt P w K H F G hs ts) {c : Addr} {xs : List V} (h : H c = some (.tup xs)) : Off F c := by
  obtain ⟨zs, hl, _⟩ := Y.ls
  obtain ⟨ys, hr, _⟩ := Y.rs
  obtain ⟨kvs, hn, _⟩ := Y.ns
  exact ⟨ne_of h hl (by intro z; cases z), ne_of h hr (by intro z; cases z), ne_of h Y.hs.1 (by intro z; cases z), ne_of h hn (by intro z; cases z), ne_of h Y.ts (by intro z; cases z)⟩
theorem YardAt.meth (Y : YardAt P w K H F G hs ts) {m : Str} {Z : Prop} (h1 : ¬ m = "_turned") (h2 : ¬ m = "_numbers") (h3 : ¬ m = "_heights") (h4 : ¬ m = "_rights") (h5 : ¬ m = "_lefts") (q : Z) :
    ∃ b dx fs, V.ref F.y = V.ref b ∧ H b = some (HO.ins (He.ga K "Yard") dx fs) ∧ fs.lookup m = none ∧ Z := ⟨F.y, F.dx, _, rfl, Y.ins, yfs_no F h1 h2 h3 h4 h5, q⟩
end
/-! lists of ints -/
theorem asc_ext : ∀ {a b : List Int}, a.Pairwise (· < ·) → b.Pairwise (· < ·) → (∀ k, k ∈ a ↔ k ∈ b) → a = b
  | [], [], _, _, _ => rfl
  | [], y :: b, _, _, h => absurd ((h y).mpr List.mem_cons_self) (by simp)
  | x :: a, [], _, _, h => absurd ((h x).mp List.mem_cons_self) (by simp)
  | x :: a, y :: b, ha, hb, h => by
    obtain ⟨a1, a2⟩ := List.pairwise_cons.mp ha
    obtain ⟨b1, b2⟩ := List.pairwise_cons.mp hb
    have e : x = y := by
      have h1 := (h x).mp List.mem_cons_self
      have h2 := (h y).mpr List.mem_cons_self
      rcases List.mem_cons.mp h1 with e | m1
      · exact e
      · rcases List.mem_cons.mp h2 with e | m2
        · exact e.symm
        · have := b1 x m1; have := a1 y m2; omega
    subst e
    congr 1
    refine asc_ext a2 b2 fun k => ⟨fun m => ?_, fun m => ?_⟩
    · rcases List.mem_cons.mp ((h k).mp (List.mem_cons_of_mem _ m)) with e | m'
      · subst e; exact absurd (a1 k m) (Int.lt_irrefl _)
      · exact m'
    · rcases List.mem_cons.mp ((h k).mpr (List.mem_cons_of_mem _ m)) with e | m'
      · subst e; exact absurd (b1 k m) (Int.lt_irrefl _)
      · exact m'
theorem asc_low : ∀ {l : List Int} {lo : Int} {n : Nat}, l.Pairwise (· < ·) → (∀ x ∈ l, lo ≤ x ∧ x < lo + n) → l.length ≤ n
  | [], _, _, _, _ => Nat.zero_le _
  | x :: l, lo, n, h, b => by
    obtain ⟨h1, h2⟩ := List.pairwise_cons.mp h
    have bx := b x List.mem_cons_self
    have z := asc_low (l := l) (lo := x + 1) (n := (lo + n - (x + 1)).toNat) h2 fun y m => by
      have := h1 y m
      have := b y (List.mem_cons_of_mem _ m)
      omega
    rw [List.length_cons]
    omega
theorem Asc.len {n : Nat} {l : List Int} (h : Asc n l) : l.length ≤ n := asc_low (lo := 0) h.1 fun x m => by have := h.2 x m; omega
theorem Asc.up {n m : Nat} {l : List Int} (h : Asc n l) (le : n ≤ m) : Asc m l := ⟨h.1, fun x i => by have := h.2 x i; omega⟩
/-- a form is kept: there already, or the new last one -/
def Put (G : List Pr) (p : Pr) (i : Int) (G' : List Pr) : Prop := (∃ k : Nat, i = k ∧ G[k]? = some p ∧ G' = G) ∨ (p ∉ G ∧ i = G.length ∧ G' = G ++ [p])
theorem Put.get {G G' : List Pr} {p : Pr} {i : Int} (h : Put G p i G') : ∃ k : Nat, i = k ∧ G'[k]? = some p := by
  rcases h with ⟨k, e, h, rfl⟩ | ⟨_, e, rfl⟩
  · exact ⟨k, e, h⟩
  · exact ⟨G.length, e, by rw [List.getElem?_append_right (Nat.le_refl _), Nat.sub_self]; rfl⟩
theorem nodup_at {α : Type} {l : List α} (n : l.Nodup) {i j : Nat} {a : α} (h : l[i]? = some a) (h' : l[j]? = some a) : i = j := by
  obtain ⟨l1, e1⟩ := List.getElem?_eq_some_iff.mp h
  obtain ⟨l2, e2⟩ := List.getElem?_eq_some_iff.mp h'
  have pw := List.pairwise_iff_getElem.mp (show l.Pairwise (· ≠ ·) from n)
  rcases Nat.lt_trichotomy i j with c | c | c
  · exact absurd (e1.trans e2.symm) (pw i j l1 l2 c)
  · exact c
  · exact absurd (e2.trans e1.symm) (pw j i l2 l1 c)
theorem Put.one {G G1 G2 : List Pr} {p : Pr} {i j : Int} (n : G.Nodup) (h : Put G p i G1) (h' : Put G p j G2) : i = j ∧ G1 = G2 := by
  rcases h with ⟨k, rfl, h, rfl⟩ | ⟨h1, rfl, rfl⟩
  · rcases h' with ⟨k', rfl, h', rfl⟩ | ⟨h1', _, _⟩
    · exact ⟨by rw [nodup_at n h h'], rfl⟩
    · exact absurd (List.mem_of_getElem? h) h1'
  · rcases h' with ⟨k', rfl, h', rfl⟩ | ⟨_, rfl, rfl⟩
    · exact absurd (List.mem_of_getElem? h') h1
    · exact ⟨rfl, rfl⟩
theorem Forms.put {G G' : List Pr} {p : Pr} {i : Int} (f : Forms G) (h : Put G p i G') (a : Asc G.length p.1) (b : Asc G.length p.2) : Forms G' := by
  rcases h with ⟨k, _, _, rfl⟩ | ⟨n, _, rfl⟩
  · exact f
  · refine ⟨?_, ?_, fun j g e => ?_⟩
    · have := (List.getElem?_eq_some_iff.mp f.zero).1
      rw [List.getElem?_append_left this]; exact f.zero
    · rw [List.nodup_append]
      refine ⟨f.one, by simp, fun x hx y hy e => ?_⟩
      rw [List.mem_singleton] at hy
      subst hy; subst e
      exact n hx
    · by_cases hj : j < G.length
      · rw [List.getElem?_append_left hj] at e; exact f.asc j g e
      · have hj2 : j = G.length := by
          have := (List.getElem?_eq_some_iff.mp e).1
          rw [List.length_append, List.length_singleton] at this
          omega
        subst hj2
        rw [List.getElem?_append_right (Nat.le_refl _), Nat.sub_self] at e
        injection e with e
        subst e
        exact ⟨a, b⟩
theorem Put.len {G G' : List Pr} {p : Pr} {i : Int} (h : Put G p i G') : G.length ≤ G'.length ∧ G'.length ≤ G.length + 1 ∧ 0 ≤ i ∧ i < G'.length := by
  rcases h with ⟨k, rfl, h, rfl⟩ | ⟨_, rfl, rfl⟩
  · have := (List.getElem?_eq_some_iff.mp h).1
    exact ⟨Nat.le_refl _, Nat.le_succ _, by omega, by omega⟩
  · rw [List.length_append, List.length_singleton]
    exact ⟨by omega, by omega, by omega, by omega⟩
theorem EntOf.look {G : List Pr} {kvs : List Ent} (e : EntOf G kvs) (n : G.Nodup) {p : Pr} : (p ∉ G → Mine.look kvs p = none) ∧ ∀ k : Nat, G[k]? = some p → Mine.look kvs p = some (k : Int) := by
  have mem : ∀ x ∈ kvs, ∃ i : Nat, G[i]? = some x.1 ∧ x.2.2 = (i : Int) := fun x m => by
    obtain ⟨i, hi, e1⟩ := List.mem_iff_getElem.mp m
    have lt : i < G.length := by rw [← e.1]; exact hi
    obtain ⟨b, e2⟩ := e.2 i G[i] (List.getElem?_eq_getElem lt)
    have e3 : kvs[i]? = some x := by rw [List.getElem?_eq_getElem hi, e1]
    rw [e3] at e2
    injection e2 with e2
    subst e2
    exact ⟨i, List.getElem?_eq_getElem lt, rfl⟩
  constructor
  · intro h
    unfold Mine.look
    rw [List.find?_eq_none.mpr]
    · rfl
    · intro x m z
      have z := of_decide_eq_true z
      obtain ⟨i, h1, _⟩ := mem x m
      exact h (z ▸ List.mem_of_getElem? h1)
  · intro k hk
    unfold Mine.look
    cases q : kvs.find? (fun e => decide (e.1 = p)) with
    | none =>
      obtain ⟨b, e2⟩ := e.2 k p hk
      have := List.find?_eq_none.mp q _ (List.mem_of_getElem? e2)
      simp at this
    | some x =>
      have h1 := List.find?_some q
      have h1 : x.1 = p := of_decide_eq_true h1
      obtain ⟨i, h2, h3⟩ := mem x (List.mem_of_find?_eq_some q)
      rw [h1] at h2
      have : i = k := nodup_at n h2 hk
      subst this
      show some x.2.2 = _
      rw [h3]
theorem EntOf.snoc {G : List Pr} {kvs : List Ent} (e : EntOf G kvs) (p : Pr) (b : Addr) : EntOf (G ++ [p]) (kvs ++ [(p, b, (G.length : Int))]) := by
  refine ⟨by rw [List.length_append, List.length_append, e.1]; rfl, fun i g h => ?_⟩
  by_cases hi : i < G.length
  · rw [List.getElem?_append_left hi] at h
    obtain ⟨c, h1⟩ := e.2 i g h
    exact ⟨c, by rw [List.getElem?_append_left (by rw [e.1]; exact hi)]; exact h1⟩
  · have hi2 : i = G.length := by
      have := (List.getElem?_eq_some_iff.mp h).1
      rw [List.length_append, List.length_singleton] at this
      omega
    subst hi2
    rw [List.getElem?_append_right (Nat.le_refl _), Nat.sub_self] at h
    injection h with h
    subst h
    exact ⟨b, by rw [← e.1, List.getElem?_append_right (Nat.le_refl _), Nat.sub_self]; rfl⟩
theorem hat_left {hs : List Int} {x k : Int} (h0 : 0 ≤ k) (h1 : k < hs.length) : hat (hs ++ [x]) k = hat hs k := by
  unfold hat
  rw [List.getD_eq_getElem?_getD, List.getElem?_append_left (by omega), ← List.getD_eq_getElem?_getD]
theorem hat_new (hs : List Int) (x : Int) : hat (hs ++ [x]) (hs.length : Nat) = x := by
  unfold hat
  rw [List.getD_eq_getElem?_getD, Int.toNat_natCast, List.getElem?_append_right (Nat.le_refl _), Nat.sub_self]
  rfl
theorem hats_left {hs : List Int} {x : Int} {n : Nat} {l : List Int} (a : ∀ k ∈ l, 0 ≤ k ∧ k < (n : Int)) (le : n ≤ hs.length) : l.map (hat (hs ++ [x])) = l.map (hat hs) := by
  refine List.map_congr_left fun k m => ?_
  have := a k m
  exact hat_left this.1 (by omega)
theorem Asc.both {n : Nat} {g : Pr} (a : Asc n g.1) (b : Asc n g.2) : ∀ k ∈ g.1 ++ g.2, 0 ≤ k ∧ k < (n : Int) := fun k m => by
  rcases List.mem_append.mp m with h | h
  · exact a.2 k h
  · exact b.2 k h
theorem HtOk.snoc {G : List Pr} {hs : List Int} (o : HtOk G hs) (l : hs.length = G.length) (f : Forms G) {p : Pr} (a : Asc G.length p.1) (b : Asc G.length p.2) {h : Int} (n : IsHt hs p h) : HtOk (G ++ [p]) (hs ++ [h]) := by
  intro i g e
  by_cases hi : i < G.length
  · rw [List.getElem?_append_left hi] at e
    obtain ⟨a1, a2⟩ := f.asc i g e
    rw [hat_left (by omega) (by omega)]
    unfold IsHt
    rw [hats_left (Asc.both a1 a2) (by omega)]
    exact o i g e
  · have hi2 : i = G.length := by
      have := (List.getElem?_eq_some_iff.mp e).1
      rw [List.length_append, List.length_singleton] at this
      omega
    subst hi2
    rw [List.getElem?_append_right (Nat.le_refl _), Nat.sub_self] at e
    injection e with e
    subst e
    rw [← l, hat_new]
    unfold IsHt
    rw [hats_left (Asc.both a b) (by omega)]
    exact n
/-- the height of a new game -/
def Hgt (G : List Pr) (hs : List Int) (p : Pr) (G' : List Pr) (hs' : List Int) : Prop := (p ∈ G ∧ hs' = hs) ∨ (p ∉ G ∧ ∃ m, hs' = hs ++ [1 + m] ∧ m ∈ (p.1 ++ p.2).map (hat hs) ∧ ∀ y ∈ (p.1 ++ p.2).map (hat hs), y ≤ m)
end Mine
namespace Mine
open PySem PySem.Spec PyProof.Rows L2
/-! sorted(a set of ints), up to a thousand of them -/
theorem raw_iv (v : Value) (h : ∃ k tk, v = Value.int k tk) : Builtin.Re.reRawOf v = SrtO.iv v := by
  obtain ⟨k, tk, rfl⟩ := h; rfl
section
variable {P : Program} {w : World} {A : Around} {E : Value → Shared → Prop} {s : Shared}
set_option maxHeartbeats 1600000 in
theorem set_in_order {a : Addr} {S : Int → Bool} {n : Nat} {Q : Value → Shared → Prop} (r : SetR w s.heap a S n) (calm : A.handled = none) (few : n ≤ 1000)
    (q : ∀ (s' : Shared) (p : Addr) (out : Array Value) (c : Nat) (ns : List Int), (∀ b o, s.heap.get? b = some o → s'.heap.get? b = some o) → s'.gens = s.gens → s'.os = s.os → s.heap.objs.size ≤ p →
      s'.heap.get? p = some (seqObj "list" out c) → IntsAre out.toList ns → ns.Pairwise (· < ·) → (∀ k, k ∈ ns ↔ S k = true) → ns.length = n → Q (.ref p) s') :
    wpAny (model P w) A (call (.builtin "sorted") [.ref a]) Q E s := by
  obtain ⟨o, es, ep, t, ho, hex, hd, g, one, mem, hb, hf, cnt, ris, led⟩ := r
  refine Calls.call_function_entry kind_sorted plain_sorted entry_sorted (args_sorted1 _) ?_
  unfold Builtin.«sorted»
  refine wpAny_bind (m := checkCount "sorted" 1 1 _) (wpAny_pure ?_)
  refine wpAny_bind (collect_set (A := A.in1) calm ⟨o, ho, hex.1, hd⟩ hf hb ris led fun s1 vs old hz gens1 os1 pm => ?_)
  have many : vs.length = n := by rw [pm.length_eq, List.length_map, Array.length_toList]; exact cnt
  have isI : ∀ v ∈ vs, ∃ k tk, v = Value.int k tk := fun v hv => by
    obtain ⟨e, he, z⟩ := List.mem_map.mp (pm.mem_iff.mp hv)
    obtain ⟨k, tk, h1, _⟩ := g e he
    exact ⟨k, tk, by rw [← z]; exact h1⟩
  have isL := SrtO.ints_iv isI
  have keys : (vs.map SrtO.iv).Perm (es.toList.map L2.keyOf) := by
    have z := pm.map Builtin.Re.reRawOf
    rw [List.map_map] at z
    have e : vs.map Builtin.Re.reRawOf = vs.map SrtO.iv := List.map_congr_left fun v hv => raw_iv v (isI v hv)
    rw [e] at z
    exact z
  have line : vs.length ≤ sizeLine := by rw [many]; exact Nat.le_trans few (by decide)
  refine wpAny_bind (wpAny_newList ?_ line)
  have at_l : (s1.heap.push (seqObj "list" vs.toArray 0)).get? s1.heap.objs.size = some (seqObj "list" vs.toArray 0) := Heap.get?_push_size _ rfl
  refine wpAny_bind (wpAny_holding (wpAny_call_entry slot_list_sort ⟨_, at_l, rfl⟩ entry_list_sort (SrtO.list_sort_ord SrtO.swo_int at_l line (fun h2 => SrtO.ints_sortable isL h2) fun out h1 h2 => ⟨_, rfl, ?_⟩) (args_list_sort _)))
  obtain ⟨k1, k2, k3⟩ := SrtO.ints_out isL h1 h2
  obtain ⟨c, hc⟩ := sortedHeap_at (vs := vs) (out := out.toArray) at_l
  have pn := k2.trans keys
  refine wpAny_pure ⟨_, rfl, q _ s1.heap.objs.size out.toArray c (out.map SrtO.iv) (fun b u e => ?_) gens1 os1 hz hc k1 (lt_of_le_nodup _ k3 (pn.nodup_iff.mpr one)) (fun k => by rw [pn.mem_iff, ← mem k]) ?_⟩
  · have z := old b u e
    have lt := Heap.lt_size z
    show (sortedHeap (s1.heap.push (seqObj "list" vs.toArray 0)) s1.heap.objs.size vs out.toArray).get? b = some u
    rw [sortedHeap_old (Nat.ne_of_lt lt) (by rw [size_push']; exact Nat.lt_succ_of_lt lt)]
    exact Heap.get?_push_of_some _ z
  · rw [pn.length_eq, List.length_map, Array.length_toList]; exact cnt
end
def rSortX (w : World) : List V → Hp → VK → Prop := fun vs H Q => ∃ (a : Addr) (S : Int → Bool) (n : Nat), vs = [V.ref a] ∧ H a = some (SetO w a S n) ∧ n ≤ 1000 ∧
  ∀ (ns : List Int) (p : Addr), ns.Pairwise (· < ·) → (∀ k : Int, k ∈ ns ↔ S k = true) → ns.length = n → H p = none → Q (.ref p) (upd H p (.lst (ns.map V.int)))
theorem cr_sortX {X : Cx} (hc : X.calm = true) : CallR X (.builtin "sorted") (rSortX X.w) := by
  intro pins s σ H vs us Q I r h
  obtain ⟨a, S, n, rfl, ha, few, q⟩ := h
  rw [Vals.ref1 r]
  refine set_in_order (setO_get I ha) (I.ok.hd hc) few fun s' p out c ns k g o hp hg hi hs hm hl => ?_
  have line : (ns.map V.int).length ≤ sizeLine := by rw [List.length_map, hl]; exact Nat.le_trans few (by decide)
  have np : H p = none := I.hok.fresh hp
  have J : Inv X pins σ (upd H p (.lst (ns.map V.int))) { s with heap := s'.heap, gens := s'.gens, drawn := s'.drawn, toks := s'.toks } :=
    I.call (ch := []) (Un.laid k hp np) (I.hok.laid k hp ⟨line, out.toList, c, vals_of_ints hi, hg⟩) (by rw [g]; exact I.bare) (fun _ z => nomatch z)
  have e : s' = { s with heap := s'.heap, gens := s'.gens, drawn := s'.drawn, toks := s'.toks } := by
    cases s'; cases s; cases o; rfl
  rw [e]
  exact ⟨.ref p, _, J, rfl, q ns p hs hm hl np⟩
end Mine
namespace Mine
open PySem PySem.Spec PyProof.Rows L2
open Evl (Ex)
theorem hu9 {A : Around} {k : Nat} (hr : Room k A) : A.units + 9 < cLine := by have := hr.units; omega
/-! comprehensions whose items are known -/
/-- what a comprehension asks behind its source -/
def lcR (g : TG) (tt : TT) (te : TE) (vs : List Nat) (σ : L2.St) (Q : VK) : It → Hp → Prop := fun J H1 => ∀ D, H1 D = none → ∃ W : Nat → Nat → Hp → Prop, (∃ m, W 0 m (upd H1 D (.lst []))) ∧ ∀ i m H, W i m H →
  (J.stop i H ∧ Q (.ref D) H) ∨ (J.go i H ∧ ∃ Nx : Hp → Prop, (∀ H', Nx H' → ∃ m', m' < m ∧ W (i + 1) m' H') ∧ ∀ x H', J.yld i H x H' → g x (wipe σ vs) H' fun σ2 H2 => wipe σ2 vs = wipe σ vs ∧ tt σ2 H2 fun b H3 =>
    if b = true then te σ2 H3 fun y H4 => ∃ acc, H4 D = some (.lst acc) ∧ acc.length < sizeLine ∧ Nx (upd H4 D (.lst (acc ++ [y]))) else Nx H3)
/-- one turn gives the item o (none: it is left out) -/
def turnR (g : TG) (tt : TT) (te : TE) (vs : List Nat) (σ : L2.St) (x : V) (o : Option V) (H1 : Hp) : Prop := ∀ H', Ex H1 H' → ∀ R : Option V → Hp → Prop, (∀ H'', Ex H' H'' → R o H'') →
  g x (wipe σ vs) H' fun σ2 H2 => wipe σ2 vs = wipe σ vs ∧ tt σ2 H2 fun b H3 => if b = true then te σ2 H3 fun y H4 => R (some y) H4 else R none H3
/-- the way a reading passes a weaker wish on -/
structure MonoLc (g : TG) (tt : TT) (te : TE) (vs : List Nat) (σ : L2.St) : Prop where
  up : ∀ (x : V) (H' : Hp) (R R' : Option V → Hp → Prop), (∀ o H, R o H → R' o H) → (g x (wipe σ vs) H' fun σ2 H2 => wipe σ2 vs = wipe σ vs ∧ tt σ2 H2 fun b H3 => if b = true then te σ2 H3 fun y H4 => R (some y) H4 else R none H3) →
    g x (wipe σ vs) H' fun σ2 H2 => wipe σ2 vs = wipe σ vs ∧ tt σ2 H2 fun b H3 => if b = true then te σ2 H3 fun y H4 => R' (some y) H4 else R' none H3
section
variable {g : TG} {tt : TT} {te : TE} {vs : List Nat} {σ : L2.St} {Q : VK} {H1 : Hp} {K : PySem.W.Frag} {wi : TI}
theorem k_lc {H : Hp} (q : wi σ H (lcR g tt te vs σ Q)) : tLc wi g tt te vs σ H Q := q
theorem turn_in {x : V} {o : Option V} {D : Addr} {acc : List V} {H : Hp} {Nx : Hp → Prop} (t : turnR g tt te vs σ x o H1) (e : Ex H1 H) (hD : H1 D = none) (a : H D = some (.lst acc)) (len : acc.length < sizeLine)
    (nx : ∀ H', Ex H1 H' → H' D = some (.lst (acc ++ o.toList)) → Nx H') :
    g x (wipe σ vs) H fun σ2 H2 => wipe σ2 vs = wipe σ vs ∧ tt σ2 H2 fun b H3 => if b = true then te σ2 H3 fun y H4 => ∃ acc, H4 D = some (.lst acc) ∧ acc.length < sizeLine ∧ Nx (upd H4 D (.lst (acc ++ [y]))) else Nx H3 := by
  refine t H e (fun o' H4 => match o' with | some y => ∃ acc, H4 D = some (.lst acc) ∧ acc.length < sizeLine ∧ Nx (upd H4 D (.lst (acc ++ [y]))) | none => Nx H4) fun H'' e2 => ?_
  cases o with
  | none => exact nx H'' (e.trans e2) (by rw [e2 _ _ a]; simp)
  | some y => exact ⟨acc, e2 _ _ a, len, nx _ (Evl.Ex.mut (e.trans e2) hD) upd_same⟩
theorem lcR_list {a : Addr} {xs : List V} (f : V → Option V) (hS : SqL K H1 a xs) (len : xs.length < sizeLine) (t : ∀ x ∈ xs, turnR g tt te vs σ x (f x) H1)
    (q : ∀ D H', H1 D = none → Ex H1 H' → H' D = some (.lst (xs.filterMap f)) → Q (.ref D) H') : lcR g tt te vs σ Q (Itl K a) H1 := by
  intro D hD
  refine lc_list (K := K) (a := a) (xs := xs) (fun i H => Ex H1 H ∧ H D = some (.lst ((xs.take i).filterMap f))) ⟨Evl.Ex.new hD, upd_same⟩ (fun i H _ p => Evl.ex_l p.1 hS) (fun i x H hx p => ?_) (fun H p => ?_)
  · refine turn_in (t x (List.mem_of_getElem? hx)) p.1 hD p.2 ?_ fun H' e h' => ⟨e, ?_⟩
    · refine Nat.lt_of_le_of_lt (Nat.le_trans (List.length_filterMap_le _ _) ?_) len
      rw [List.length_take]; omega
    · rw [h', List.take_add_one, hx, List.filterMap_append]
      cases h : f x <;> simp [h]
  · refine q D H hD p.1 ?_
    rw [p.2, List.take_of_length_le (Nat.le_refl _)]
theorem lcR_tup {a : Addr} {xs : List V} (f : V → Option V) (hS : SqT K H1 a xs) (len : xs.length < sizeLine) (t : ∀ x ∈ xs, turnR g tt te vs σ x (f x) H1)
    (q : ∀ D H', H1 D = none → Ex H1 H' → H' D = some (.lst (xs.filterMap f)) → Q (.ref D) H') : lcR g tt te vs σ Q (Itt K a) H1 := by
  intro D hD
  refine lc_tup (K := K) (a := a) (xs := xs) (fun i H => Ex H1 H ∧ H D = some (.lst ((xs.take i).filterMap f))) ⟨Evl.Ex.new hD, upd_same⟩ (fun i H _ p => Evl.ex_t p.1 hS) (fun i x H hx p => ?_) (fun H p => ?_)
  · refine turn_in (t x (List.mem_of_getElem? hx)) p.1 hD p.2 ?_ fun H' e h' => ⟨e, ?_⟩
    · refine Nat.lt_of_le_of_lt (Nat.le_trans (List.length_filterMap_le _ _) ?_) len
      rw [List.length_take]; omega
    · rw [h', List.take_add_one, hx, List.filterMap_append]
      cases h : f x <;> simp [h]
  · refine q D H hD p.1 ?_
    rw [p.2, List.take_of_length_le (Nat.le_refl _)]
theorem lcR_rng {n : Nat} (f : Nat → Option V) (len : n < sizeLine) (t : ∀ i, i < n → turnR g tt te vs σ (.int (i : Int)) (f i) H1)
    (q : ∀ D H', H1 D = none → Ex H1 H' → H' D = some (.lst ((List.range n).filterMap f)) → Q (.ref D) H') : lcR g tt te vs σ Q (Itr 0 n) H1 := by
  intro D hD
  refine lc_range (lo := 0) (n := n) (fun i H => Ex H1 H ∧ H D = some (.lst ((List.range i).filterMap f))) ⟨Evl.Ex.new hD, upd_same⟩ (fun i H hi p => ?_) (fun H p => q D H hD p.1 p.2)
  have e0 : (0 : Int) + (i : Int) = (i : Int) := Int.zero_add _
  rw [e0]
  refine turn_in (t i hi) p.1 hD p.2 ?_ fun H' e h' => ⟨e, ?_⟩
  · refine Nat.lt_of_le_of_lt (Nat.le_trans (List.length_filterMap_le _ _) ?_) (Nat.lt_trans hi len)
    rw [List.length_range]; exact Nat.le_refl i
  · rw [h', List.range_succ, List.filterMap_append]
    cases h : f i <;> simp [h]
/-- a turn of x where the item is plain -/
theorem turn_map {i : Nat} {x y : V} (h : ∀ H', Ex H1 H' → ∀ R : VK, R y H' → te ((wipe σ [i]).set i (some x)) H' R) (w : wipe ((wipe σ [i]).set i (some x)) [i] = wipe σ [i] := by rfl) : turnR (gName i) tYes te [i] σ x (some y) H1 :=
  fun H' e R r => ⟨w, h H' e (fun y H4 => R (some y) H4) (r H' (Evl.Ex.refl _))⟩
end
section
variable {X : Cx}
/-- tuple(xs), xs a list -/
def rTupL (K : PySem.W.Frag) : List V → Hp → VK → Prop := fun vs H Q => ∃ p ys, vs = [V.ref p] ∧ SqL K H p ys ∧ ∀ l, H l = none → Q (.ref l) (upd H l (.tup ys))
theorem cr_tupL : CallR X (.type "tuple") (rTupL X.K) := fun pins s σ H xs us Q I r h =>
  let ⟨p, ys, e, h1, q⟩ := h
  call_tuple_of pins s σ H xs us Q I r ⟨p, ys, e, Or.inl ⟨h1, q⟩⟩
end
section
variable {H : Hp} {Q : VK} {K : PySem.W.Frag}
theorem k_tsl {r : V → Option Int → Option Int → Hp → VK → Prop} {σ : L2.St} {te : TE} {tl th : TO} (q : te σ H fun x H1 => tl σ H1 fun l H2 => th σ H2 fun u H3 => r x l u H3 Q) : L2.tSl r te tl th σ H Q := q
theorem k_part {σ : L2.St} {t : TE} {R : Option Int → Hp → Prop} (q : t σ H fun x H1 => ∃ i, x = .int i ∧ R (some i) H1) : tPart t σ H R := q
theorem k_nopart {σ : L2.St} {R : Option Int → Hp → Prop} (q : R none H) : tNoPart σ H R := q
theorem k_exi {R : Int → Prop} {j : Int} (q : R j) : ∃ i, V.int j = V.int i ∧ R i := ⟨j, rfl, q⟩
theorem k_slL {a : Addr} {xs : List V} {lo hi : Option Int} (h : SqL K H a xs) (q : ∀ p, H p = none → Q (.ref p) (upd H p (.lst (cutV xs lo hi)))) : rSlL K (.ref a) lo hi H Q := ⟨a, xs, rfl, h, q⟩
theorem k_sfl {σ : L2.St} {D : Ends} {ta tv : TE} {f : Str} (q : tv σ H fun y H1 => ta σ H1 fun x H2 => ∃ a C dx fs, x = .ref a ∧ H2 a = some (.ins C dx fs) ∧ Cls K C ∧ NoAttr K C f ∧ fs.length < 1000 ∧ D.nx σ (upd H2 a (.ins C dx (putF f y fs)))) : sFld K ta tv f D σ H := q
theorem k_nnot {P : Program} {w : World} {σ : L2.St} {ty td : TE} (q : ty σ H fun y H1 => td σ H1 fun x H2 => ∃ a b kvs p, x = V.ref a ∧ y = V.ref b ∧ H2 a = some (NdO P w a kvs) ∧ Mine.Keys H2 kvs ∧ PrT H2 b p ∧ Q (.bl (!(look kvs p).isSome)) H2) : tNNot P w ty td σ H Q := q
theorem k_nget {P : Program} {w : World} {σ : L2.St} {ty td : TE} (q : td σ H fun x H1 => ty σ H1 fun y H2 => ∃ a b kvs p v, x = V.ref a ∧ y = V.ref b ∧ H2 a = some (NdO P w a kvs) ∧ Mine.Keys H2 kvs ∧ PrT H2 b p ∧ look kvs p = some v ∧ Q (.int v) H2) : tNGet P w td ty σ H Q := q
theorem k_nput {P : Program} {w : World} {σ : L2.St} {D : Ends} {ty td tv : TE} (q : tv σ H fun z H1 => td σ H1 fun x H2 => ty σ H2 fun y H3 => ∃ a b kvs p v, z = V.int v ∧ x = V.ref a ∧ y = V.ref b ∧ H3 a = some (NdO P w a kvs) ∧ Mine.Keys H3 kvs ∧ PrT H3 b p ∧ look kvs p = none ∧
  kvs.length < sizeLine ∧ D.nx σ (upd H3 a (NdO P w a (kvs ++ [(p, b, v)])))) : sNPut P w td ty tv D σ H := q
theorem k_dget {σ : L2.St} {ty td : TE} (q : td σ H fun x H1 => ty σ H1 fun y H2 => ∃ a v, x = V.ref a ∧ DGet H2 a y (some v) ∧ Q v H2) : tDGet td ty σ H Q := q
theorem k_din {σ : L2.St} {ty td : TE} (q : ty σ H fun y H1 => td σ H1 fun x H2 => ∃ a o, x = V.ref a ∧ DGet H2 a y o ∧ Q (.bl o.isSome) H2) : tDIn ty td σ H Q := q
theorem k_dnotin {σ : L2.St} {ty td : TE} (q : ty σ H fun y H1 => td σ H1 fun x H2 => ∃ a o, x = V.ref a ∧ DGet H2 a y o ∧ Q (.bl (!o.isSome)) H2) : tDNotIn ty td σ H Q := q
theorem k_dput {σ : L2.St} {D : Ends} {ty td tv : TE} (q : tv σ H fun v H1 => td σ H1 fun x H2 => ty σ H2 fun y H3 => ∃ a H4, x = V.ref a ∧ DPut H3 a y v H4 ∧ D.nx σ H4) : sDPut td ty tv D σ H := q
theorem k_rCatA {a b : Addr} {xs ys : List V} (h1 : SqT K H a xs) (h2 : SqT K H b ys) (l : xs.length + ys.length ≤ sizeLine) (q : ∀ p H', Ex H H' → SqT K H' p (xs ++ ys) → Q (.ref p) H') : rCatA K (.ref a) (.ref b) H Q :=
  ⟨a, b, xs, ys, rfl, rfl, h1, h2, l, fun e => q b H (Evl.Ex.refl H) (by rw [e]; exact h2), fun _ e => q a H (Evl.Ex.refl H) (by rw [e, List.append_nil]; exact h1), fun _ _ p n => q p _ (Evl.Ex.new n) (k_st upd_same)⟩
/-- what an item of ints is made into -/
def onI (f : Int → Int) : V → Option V := fun v => match v with | .int k => some (.int (f k)) | _ => none
theorem onI_map (f : Int → Int) (ns : List Int) : (ns.map V.int).filterMap (onI f) = (ns.map f).map V.int := by
  induction ns with
  | nil => rfl
  | cons x xs ih =>
    have e : onI f (V.int x) = some (V.int (f x)) := rfl
    rw [List.map_cons, List.filterMap_cons, e, ih]
    rfl
theorem hat_at {hs : List Int} {k : Int} {n : Nat} (l : hs.length = n) (h0 : 0 ≤ k) (h1 : k < n) : atI (hs.map V.int) k = some (V.int (hat hs k)) := by
  obtain ⟨z, hz, e⟩ := at_int (ns := hs) h0 (by omega)
  rw [e]
  unfold hat
  rw [List.getD_eq_getElem?_getD, hz]
  rfl
theorem k_rTupL {p : Addr} {ys : List V} (h : SqL K H p ys) (q : ∀ l, H l = none → Q (.ref l) (upd H l (.tup ys))) : rTupL K [.ref p] H Q := ⟨p, ys, rfl, h, q⟩
theorem k_rListL {p : Addr} {ys : List V} (h : SqL K H p ys) (q : ∀ l, H l = none → Q (.ref l) (upd H l (.lst ys))) : rListQ K [.ref p] H Q := ⟨p, ys, rfl, Or.inl h, q⟩
theorem k_rListT {p : Addr} {ys : List V} (h : SqT K H p ys) (q : ∀ l, H l = none → Q (.ref l) (upd H l (.lst ys))) : rListQ K [.ref p] H Q := ⟨p, ys, rfl, Or.inr h, q⟩
theorem k_rSetL {w : World} {p : Addr} {ns : List Int} (h : SqL K H p (ns.map V.int)) (b : ns.length ≤ 1000) (q : ∀ (p : Addr) (c : Nat), H p = none → c ≤ ns.length → Q (.ref p) (upd H p (SetO w p (fun j => decide (j ∈ ns)) c))) : rSetL K w [.ref p] H Q :=
  ⟨p, ns, rfl, h, Nat.lt_of_le_of_lt (Nat.succ_le_succ b) (by decide), q⟩
theorem k_rSorted {w : World} {a : Addr} {S : Int → Bool} {n : Nat} (h : H a = some (SetO w a S n)) (l : n ≤ 1000) (q : ∀ (ns : List Int) (p : Addr), ns.Pairwise (· < ·) → (∀ k : Int, k ∈ ns ↔ S k = true) → ns.length = n → H p = none → Q (.ref p) (upd H p (.lst (ns.map V.int)))) :
    rSortX w [.ref a] H Q := ⟨a, S, n, rfl, h, l, q⟩
theorem inV_ints (x : Int) : ∀ ns : List Int, inV (V.int x) (ns.map V.int) = decide (x ∈ ns)
  | [] => rfl
  | y :: ys => by
    show (eqV (V.int y) (V.int x) || inV (V.int x) (ys.map V.int)) = _
    rw [inV_ints x ys]
    have e1 : eqV (V.int y) (V.int x) = decide (x = y) := by
      by_cases h1 : x = y
      · subst h1; simp [eqV]
      · simp [eqV, h1, Ne.symm h1]
    rw [e1]
    by_cases h1 : x = y <;> simp [h1]
theorem k_in {neg : Bool} {x : Int} {p : Addr} {ns : List Int} (h : SqL K H p (ns.map V.int)) (q : Q (.bl (if neg then !decide (x ∈ ns) else decide (x ∈ ns))) H) : rIn K neg (.int x) (.ref p) H Q := by
  have f : (ns.map V.int).all flatV = true := by simp [flatV]
  exact ⟨p, _, rfl, Or.inl h, rfl, f, by rw [inV_ints]; exact q⟩
theorem k_rMaxL {a : Addr} {ns : List Int} (h : SqL K H a (ns.map V.int)) (l : 0 < ns.length) (q : ∀ m, m ∈ ns → (∀ y, y ∈ ns → y ≤ m) → Q (.int m) H) : rMax K [.ref a] H Q := ⟨a, ns, rfl, h, l, q⟩
theorem k_rCat {a b : Addr} {xs ys : List V} (h1 : H a = some (.lst xs)) (h2 : H b = some (.lst ys)) (l : xs.length + ys.length ≤ sizeLine) (q : ∀ p, H p = none → Q (.ref p) (upd H p (.lst (xs ++ ys)))) : rCat (.ref a) (.ref b) H Q := ⟨a, b, xs, ys, rfl, rfl, h1, h2, l, q⟩
end
end Mine
namespace Mine
open PySem PySem.Spec PyProof.Rows L2
open Evl (Ex)
/-- a new object, by the name of the heap that holds it -/
theorem upd_ex {H : Hp} {p : Addr} {o : HO} (np : H p = none) : ∃ H', upd H p o = H' ∧ Ex H H' ∧ H' p = some o := ⟨_, rfl, Evl.Ex.new np, upd_same⟩
theorem nx {H H' : Hp} {p : Addr} {o : HO} (np : H p = none) (h : upd H p o = H') : Ex H H' := h ▸ Evl.Ex.new np
theorem nS {H H' : Hp} {p : Addr} {o : HO} (h : upd H p o = H') : H' p = some o := h ▸ upd_same
section
variable {H : Hp} {K : PySem.W.Frag} {Q : VK}
theorem n_sl {a : Addr} {xs : List V} {lo hi : Option Int} (h : SqL K H a xs) (q : ∀ p H', H p = none → Ex H H' → H' p = some (.lst (cutV xs lo hi)) → Q (.ref p) H') : rSlL K (.ref a) lo hi H Q :=
  k_slL h fun p np => q p _ np (Evl.Ex.new np) upd_same
theorem n_cat {a b : Addr} {xs ys : List V} (h1 : H a = some (.lst xs)) (h2 : H b = some (.lst ys)) (l : xs.length + ys.length ≤ sizeLine) (q : ∀ p H', H p = none → Ex H H' → H' p = some (.lst (xs ++ ys)) → Q (.ref p) H') : rCat (.ref a) (.ref b) H Q :=
  k_rCat h1 h2 l fun p np => q p _ np (Evl.Ex.new np) upd_same
theorem n_rep {a : Addr} {k : Int} {xs : List V} (h : H a = some (.lst xs)) (b1 : -(2 ^ 63) ≤ k) (b2 : k < 2 ^ 63) (l : xs.length * k.toNat ≤ sizeLine) (q : ∀ p H', H p = none → Ex H H' → H' p = some (.lst (List.replicate k.toNat xs).flatten) → Q (.ref p) H') : rRep (.ref a) (.int k) H Q :=
  ⟨a, k, xs, rfl, rfl, h, b1, b2, l, fun p np => q p _ np (Evl.Ex.new np) upd_same⟩
theorem n_tupL {a : Addr} {xs : List V} (h : SqL K H a xs) (q : ∀ p H', H p = none → Ex H H' → H' p = some (.tup xs) → Q (.ref p) H') : rTupL K [.ref a] H Q :=
  k_rTupL h fun p np => q p _ np (Evl.Ex.new np) upd_same
theorem n_listL {a : Addr} {xs : List V} (h : SqL K H a xs) (q : ∀ p H', H p = none → Ex H H' → H' p = some (.lst xs) → Q (.ref p) H') : rListQ K [.ref a] H Q :=
  k_rListL h fun p np => q p _ np (Evl.Ex.new np) upd_same
theorem n_listT {a : Addr} {xs : List V} (h : SqT K H a xs) (q : ∀ p H', H p = none → Ex H H' → H' p = some (.lst xs) → Q (.ref p) H') : rListQ K [.ref a] H Q :=
  k_rListT h fun p np => q p _ np (Evl.Ex.new np) upd_same
theorem fits {n : Nat} (h : n ≤ 3000) : n ≤ sizeLine := Nat.le_trans h (by decide)
theorem fits' {n : Nat} (h : n ≤ 3000) : n < sizeLine := Nat.lt_of_le_of_lt h (by decide)
end
theorem cut_cut {xs : List V} {i : Nat} (h : i ≤ xs.length) : cutV xs none (some (i : Int)) = xs.take i := by
  unfold cutV
  rw [HT.sIx_none, HT.sIx_nat, Nat.min_eq_left h, List.drop_zero, Nat.sub_zero]
theorem cut_all {xs : List V} {i : Nat} (h : xs.length ≤ i) : cutV xs none (some (i : Int)) = xs := by
  unfold cutV
  rw [HT.sIx_none, HT.sIx_nat, Nat.min_eq_right h, List.drop_zero, Nat.sub_zero, List.take_of_length_le (Nat.le_refl _)]
theorem cut_min {xs : List V} {i : Nat} : cutV xs none (some (i : Int)) = xs.take i := by
  rcases Nat.le_total i xs.length with h | h
  · exact cut_cut h
  · rw [cut_all h, List.take_of_length_le h]
theorem cut_off {xs : List V} {i : Nat} (h : i ≤ xs.length) : cutV xs (some (i : Int)) none = xs.drop i := by
  unfold cutV
  rw [HT.sIx_none, HT.sIx_nat, Nat.min_eq_left h, List.take_of_length_le (by rw [List.length_drop]; exact Nat.le_refl _)]
end Mine
namespace Mine
open PySem PySem.Spec PyProof.Rows L2
open Evl (Ex)
/-- one turn makes an item with a property -/
def turnQ (g : TG) (tt : TT) (te : TE) (vs : List Nat) (σ : L2.St) (x : V) (P : V → Hp → Prop) (H1 : Hp) : Prop := ∀ H', Ex H1 H' → ∀ R : Option V → Hp → Prop, (∀ y H'', Ex H' H'' → P y H'' → R (some y) H'') →
  g x (wipe σ vs) H' fun σ2 H2 => wipe σ2 vs = wipe σ vs ∧ tt σ2 H2 fun b H3 => if b = true then te σ2 H3 fun y H4 => R (some y) H4 else R none H3
/-- what holds of an item while nothing but lists changes -/
def Lasts (P : V → V → Hp → Prop) : Prop := ∀ (x y : V) (H H' : Hp), P x y H → (∀ c o, H c = some o → (∀ ys, o ≠ .lst ys) → H' c = some o) → P x y H'
section
variable {g : TG} {tt : TT} {te : TE} {vs : List Nat} {σ : L2.St} {Q : VK} {H1 : Hp} {K : PySem.W.Frag}
theorem turnQ_in {x : V} {P : V → Hp → Prop} {D : Addr} {acc : List V} {H : Hp} {Nx : Hp → Prop} (t : turnQ g tt te vs σ x P H1) (e : Ex H1 H) (hD : H1 D = none) (a : H D = some (.lst acc)) (len : acc.length < sizeLine)
    (nx : ∀ y H2 H', Ex H H2 → P y H2 → Ex H1 H' → H' D = some (.lst (acc ++ [y])) → (∀ c o, H2 c = some o → (∀ ys, o ≠ .lst ys) → H' c = some o) → Nx H') :
    g x (wipe σ vs) H fun σ2 H2 => wipe σ2 vs = wipe σ vs ∧ tt σ2 H2 fun b H3 => if b = true then te σ2 H3 fun y H4 => ∃ acc, H4 D = some (.lst acc) ∧ acc.length < sizeLine ∧ Nx (upd H4 D (.lst (acc ++ [y]))) else Nx H3 := by
  have no : ∀ o' : Option V, o' = none → ∀ H4 : Hp, True := fun _ _ _ => trivial
  refine (fun z => ?_) (t H e (fun o' H4 => match o' with | some y => ∃ acc, H4 D = some (.lst acc) ∧ acc.length < sizeLine ∧ Nx (upd H4 D (.lst (acc ++ [y]))) | none => Nx H4) fun y H'' e2 p => ?_)
  · exact z
  · refine ⟨acc, e2 _ _ a, len, nx y H'' _ e2 p (Evl.Ex.mut (e.trans e2) hD) upd_same fun c o q n => (upd_ne fun z => ?_).trans q⟩
    rw [z, e2 _ _ a] at q
    exact n _ (Option.some.inj q).symm
theorem lcQ_tup {a : Addr} {xs : List V} (P : V → V → Hp → Prop) (La : Lasts P) (hS : SqT K H1 a xs) (len : xs.length < sizeLine) (t : ∀ (i : Nat) (x : V), xs[i]? = some x → turnQ g tt te vs σ x (P x) H1)
    (q : ∀ D ys H', H1 D = none → Ex H1 H' → H' D = some (.lst ys) → ys.length = xs.length → (∀ (i : Nat) (x : V), xs[i]? = some x → ∃ y, ys[i]? = some y ∧ P x y H') → Q (.ref D) H') : lcR g tt te vs σ Q (Itt K a) H1 := by
  intro D hD
  refine lc_tup (K := K) (a := a) (xs := xs) (fun i H => ∃ ys, Ex H1 H ∧ H D = some (.lst ys) ∧ ys.length = i ∧ ∀ (j : Nat) (x : V), j < i → xs[j]? = some x → ∃ y, ys[j]? = some y ∧ P x y H) ⟨[], Evl.Ex.new hD, upd_same, rfl, fun j x h => absurd h (Nat.not_lt_zero _)⟩ (fun i H _ ⟨_, e, _⟩ => Evl.ex_t e hS) (fun i x H hx p => ?_) (fun H p => ?_)
  · obtain ⟨ys, e, hd, yl, ok⟩ := p
    have hi := (List.getElem?_eq_some_iff.mp hx).1
    refine turnQ_in (t i x hx) e hD hd (by omega) fun y H2 H' e2 py e' hd' kp => ⟨ys ++ [y], e', hd', by rw [List.length_append, yl]; rfl, fun j x' hj hx' => ?_⟩
    rcases Nat.lt_or_ge j i with l | l
    · obtain ⟨y', h1, h2⟩ := ok j x' l hx'
      exact ⟨y', by rw [List.getElem?_append_left (by omega)]; exact h1, La _ _ _ _ h2 fun c o q n => kp c o (e2 _ _ q) n⟩
    · have ej : j = i := by omega
      subst ej
      rw [hx] at hx'
      injection hx' with hx'
      subst hx'
      exact ⟨y, by rw [← yl, List.getElem?_append_right (Nat.le_refl _), Nat.sub_self]; rfl, La _ _ _ _ py kp⟩
  · obtain ⟨ys, e, hd, yl, ok⟩ := p
    exact q D ys H hD e hd yl fun i x hx => ok i x (List.getElem?_eq_some_iff.mp hx).1 hx
theorem lcQ_list {a : Addr} {xs : List V} (P : V → V → Hp → Prop) (La : Lasts P) (hS : SqL K H1 a xs) (len : xs.length < sizeLine) (t : ∀ (i : Nat) (x : V), xs[i]? = some x → turnQ g tt te vs σ x (P x) H1)
    (q : ∀ D ys H', H1 D = none → Ex H1 H' → H' D = some (.lst ys) → ys.length = xs.length → (∀ (i : Nat) (x : V), xs[i]? = some x → ∃ y, ys[i]? = some y ∧ P x y H') → Q (.ref D) H') : lcR g tt te vs σ Q (Itl K a) H1 := by
  intro D hD
  refine lc_list (K := K) (a := a) (xs := xs) (fun i H => ∃ ys, Ex H1 H ∧ H D = some (.lst ys) ∧ ys.length = i ∧ ∀ (j : Nat) (x : V), j < i → xs[j]? = some x → ∃ y, ys[j]? = some y ∧ P x y H) ⟨[], Evl.Ex.new hD, upd_same, rfl, fun j x h => absurd h (Nat.not_lt_zero _)⟩ (fun i H _ ⟨_, e, _⟩ => Evl.ex_l e hS) (fun i x H hx p => ?_) (fun H p => ?_)
  · obtain ⟨ys, e, hd, yl, ok⟩ := p
    have hi := (List.getElem?_eq_some_iff.mp hx).1
    refine turnQ_in (t i x hx) e hD hd (by omega) fun y H2 H' e2 py e' hd' kp => ⟨ys ++ [y], e', hd', by rw [List.length_append, yl]; rfl, fun j x' hj hx' => ?_⟩
    rcases Nat.lt_or_ge j i with l | l
    · obtain ⟨y', h1, h2⟩ := ok j x' l hx'
      exact ⟨y', by rw [List.getElem?_append_left (by omega)]; exact h1, La _ _ _ _ h2 fun c o q n => kp c o (e2 _ _ q) n⟩
    · have ej : j = i := by omega
      subst ej
      rw [hx] at hx'
      injection hx' with hx'
      subst hx'
      exact ⟨y, by rw [← yl, List.getElem?_append_right (Nat.le_refl _), Nat.sub_self]; rfl, La _ _ _ _ py kp⟩
  · obtain ⟨ys, e, hd, yl, ok⟩ := p
    exact q D ys H hD e hd yl fun i x hx => ok i x (List.getElem?_eq_some_iff.mp hx).1 hx
/-- a plain item: no test, one name -/
theorem turnQ_map {i : Nat} {x : V} {P : V → Hp → Prop} (h : ∀ H', Ex H1 H' → ∀ R : VK, (∀ y H'', Ex H' H'' → P y H'' → R y H'') → te ((wipe σ [i]).set i (some x)) H' R) (w : wipe ((wipe σ [i]).set i (some x)) [i] = wipe σ [i] := by rfl) : turnQ (gName i) tYes te [i] σ x P H1 :=
  fun H' e R r => ⟨w, h H' e _ fun y H'' e2 p => r y H'' e2 p⟩
end
end Mine
namespace Mine
open PySem PySem.Spec PyProof.Rows L2
open Evl (Ex)
section
variable {g : TG} {tt : TT} {te : TE} {vs : List Nat} {σ : L2.St} {Q : VK} {H1 : Hp} {K : PySem.W.Frag}
theorem lcQ_rng {lo : Int} {n : Nat} (P : Nat → V → Hp → Prop) (La : ∀ (i : Nat) (y : V) (H H' : Hp), P i y H → (∀ c o, H c = some o → (∀ ys, o ≠ .lst ys) → H' c = some o) → P i y H') (len : n < sizeLine) (t : ∀ i, i < n → turnQ g tt te vs σ (.int (lo + (i : Int))) (P i) H1)
    (q : ∀ D ys H', H1 D = none → Ex H1 H' → H' D = some (.lst ys) → ys.length = n → (∀ (i : Nat), i < n → ∃ y, ys[i]? = some y ∧ P i y H') → Q (.ref D) H') : lcR g tt te vs σ Q (Itr lo n) H1 := by
  intro D hD
  refine lc_range (lo := lo) (n := n) (fun i H => ∃ ys, Ex H1 H ∧ H D = some (.lst ys) ∧ ys.length = i ∧ ∀ (j : Nat), j < i → ∃ y, ys[j]? = some y ∧ P j y H) ⟨[], Evl.Ex.new hD, upd_same, rfl, fun j h => absurd h (Nat.not_lt_zero _)⟩ (fun i H hi p => ?_) (fun H p => ?_)
  · obtain ⟨ys, e, hd, yl, ok⟩ := p
    refine turnQ_in (t i hi) e hD hd (by omega) fun y H2 H' e2 py e' hd' kp => ⟨ys ++ [y], e', hd', by rw [List.length_append, yl]; rfl, fun j hj => ?_⟩
    rcases Nat.lt_or_ge j i with l | l
    · obtain ⟨y', h1, h2⟩ := ok j l
      exact ⟨y', by rw [List.getElem?_append_left (by omega)]; exact h1, La _ _ _ _ h2 fun c o q n => kp c o (e2 _ _ q) n⟩
    · have ej : j = i := by omega
      subst ej
      exact ⟨y, by rw [← yl, List.getElem?_append_right (Nat.le_refl _), Nat.sub_self]; rfl, La _ _ _ _ py kp⟩
  · obtain ⟨ys, e, hd, yl, ok⟩ := p
    exact q D ys H hD e hd yl ok
end
end Mine
namespace Mine
open PySem PySem.Spec PyProof.Rows L2
open Evl (Ex)
/-! a law's own list of forms: refs to pairs of lists of ints -/
/-- all but the addresses of Z stays -/
def Keep (Z : Addr → Prop) (H H' : Hp) : Prop := ∀ c o, H c = some o → ¬ Z c → H' c = some o
theorem Keep.of {Z : Addr → Prop} {H H' : Hp} (e : Ex H H') : Keep Z H H' := fun c o h _ => e c o h
theorem Keep.trans {Z : Addr → Prop} {H H1 H2 : Hp} (a : Keep Z H H1) (b : Keep Z H1 H2) : Keep Z H H2 := fun c o h n => b c o (a c o h n) n
def FormAt (Z : Addr → Prop) (H : Hp) (a : Addr) (g : Pr) : Prop := ∃ c d, H a = some (.tup [.ref c, .ref d]) ∧ H c = some (.lst (g.1.map V.int)) ∧ H d = some (.lst (g.2.map V.int)) ∧ ¬ Z c ∧ ¬ Z d
def FormsAt (Z : Addr → Prop) (H : Hp) (xs : List V) (G : List Pr) : Prop := xs.length = G.length ∧ ∀ (i : Nat) (g : Pr), G[i]? = some g → ∃ a, xs[i]? = some (.ref a) ∧ FormAt Z H a g
def ModAt (Z : Addr → Prop) (H : Hp) (m : Addr) (G : List Pr) : Prop := ∃ xs, H m = some (.lst xs) ∧ FormsAt Z H xs G
theorem FormAt.keep {Z : Addr → Prop} {H H' : Hp} {a : Addr} {g : Pr} (f : FormAt Z H a g) (k : Keep Z H H') (t : ∀ c ys, H c = some (.tup ys) → H' c = some (.tup ys)) : FormAt Z H' a g :=
  let ⟨c, d, h1, h2, h3, z1, z2⟩ := f
  ⟨c, d, t _ _ h1, k _ _ h2 z1, k _ _ h3 z2, z1, z2⟩
theorem FormsAt.keep {Z : Addr → Prop} {H H' : Hp} {xs : List V} {G : List Pr} (f : FormsAt Z H xs G) (k : Keep Z H H') (t : ∀ c ys, H c = some (.tup ys) → H' c = some (.tup ys)) : FormsAt Z H' xs G :=
  ⟨f.1, fun i g h => let ⟨a, h1, h2⟩ := f.2 i g h; ⟨a, h1, h2.keep k t⟩⟩
theorem FormsAt.ex {Z : Addr → Prop} {H H' : Hp} {xs : List V} {G : List Pr} (f : FormsAt Z H xs G) (e : Ex H H') : FormsAt Z H' xs G := f.keep (Keep.of e) fun c ys h => e _ _ h
theorem ModAt.up {Z : Addr → Prop} {H H' : Hp} {m : Addr} {G : List Pr} (f : ModAt Z H m G) (e : Ex H H') : ModAt Z H' m G := let ⟨xs, h1, h2⟩ := f; ⟨xs, e _ _ h1, h2.ex e⟩
/-- data of a form -/
def formD (g : Pr) : PyData := .tuple [.list (g.1.map .int), .list (g.2.map .int)]
theorem dp_ints {K : PySem.W.Frag} {H : Hp} : ∀ ns : List Int, DpAll K H (ns.map V.int) (ns.map .int)
  | [] => .nil
  | x :: xs => .cons (.int x) (dp_ints xs)
theorem FormAt.dp {K : PySem.W.Frag} {Z : Addr → Prop} {H : Hp} {a : Addr} {g : Pr} (f : FormAt Z H a g) : Dp K H (.ref a) (formD g) :=
  let ⟨c, d, h1, h2, h3, _⟩ := f
  .tup (k_st h1) (.cons (.lst (k_sq h2) (dp_ints _)) (.cons (.lst (k_sq h3) (dp_ints _)) .nil))
theorem eqv_form (g h : Pr) : PyData.eqv (formD g) (formD h) = decide (g = h) := by
  unfold formD
  simp only [PyData.eqv, PyData.eqvAll, PySem.W.ked_eqvAll]
  obtain ⟨a, b⟩ := g
  obtain ⟨c, d⟩ := h
  by_cases h1 : a = c <;> by_cases h2 : b = d <;> simp [h1, h2]
theorem lay_ints : ∀ ns : List Int, PyData.canLayAll0 (ns.map .int) = true
  | [] => rfl
  | x :: xs => by
    simp only [List.map_cons, PyData.canLayAll0, PyData.canLay0, lay_ints xs]
    rfl
theorem deep_ints : ∀ ns : List Int, PyData.depthAll (ns.map .int) = 0
  | [] => by simp only [List.map_nil, PyData.depthAll]
  | x :: xs => by simp only [List.map_cons, PyData.depthAll, PyData.depth, deep_ints xs]; rfl
theorem shaped_form (g : Pr) : SeqAt.shaped (formD g) = true := by
  unfold formD SeqAt.shaped
  simp only [PyData.canLay0, PyData.depth, PyData.canLayAll0, PyData.depthAll, lay_ints, deep_ints]
  rfl
theorem shaped_ints (ns : List Int) : SeqAt.shaped (.list (ns.map .int)) = true := by
  unfold SeqAt.shaped
  simp only [PyData.canLay0, PyData.depth, lay_ints, deep_ints]
  rfl
theorem eqv_ints (a b : List Int) : PyData.eqv (.list (a.map .int)) (.list (b.map .int)) = decide (a = b) := by
  simp only [PyData.eqv, PySem.W.ked_eqvAll]
/-- a list of two lists of ints -/
def twoD (g : Pr) : PyData := .list [.list (g.1.map .int), .list (g.2.map .int)]
theorem eqv_two (g h : Pr) : PyData.eqv (twoD g) (twoD h) = decide (g = h) := by
  unfold twoD
  simp only [PyData.eqv, PyData.eqvAll, PySem.W.ked_eqvAll]
  obtain ⟨a, b⟩ := g
  obtain ⟨c, d⟩ := h
  by_cases h1 : a = c <;> by_cases h2 : b = d <;> simp [h1, h2]
theorem shaped_two (g : Pr) : SeqAt.shaped (twoD g) = true := by
  unfold twoD SeqAt.shaped
  simp only [PyData.canLay0, PyData.depth, PyData.canLayAll0, PyData.depthAll, lay_ints, deep_ints]
  rfl
section
variable {K : PySem.W.Frag} {H : Hp} {Q : VK}
theorem k_eqF {Z Z' : Addr → Prop} {a b : Addr} {g h : Pr} (f1 : FormAt Z H a g) (f2 : FormAt Z' H b h) (q : Q (.bl (decide (g = h))) H) : rEqD K (.ref a) (.ref b) H Q :=
  ⟨formD g, formD h, f1.dp, f2.dp, shaped_form g, shaped_form h, by rw [eqv_form]; exact q⟩
theorem k_eqIs {a b : Addr} {g h : List Int} (f1 : SqL K H a (g.map V.int)) (f2 : SqL K H b (h.map V.int)) (q : Q (.bl (decide (g = h))) H) : rEqD K (.ref a) (.ref b) H Q :=
  ⟨_, _, .lst f1 (dp_ints g), .lst f2 (dp_ints h), shaped_ints g, shaped_ints h, by rw [eqv_ints]; exact q⟩
theorem k_neTwo {a b c d e f : Addr} {g h : Pr} (f1 : SqL K H a [.ref c, .ref d]) (f2 : SqL K H b [.ref e, .ref f]) (hc : SqL K H c (g.1.map V.int)) (hd : SqL K H d (g.2.map V.int)) (he : SqL K H e (h.1.map V.int)) (hf : SqL K H f (h.2.map V.int))
    (q : Q (.bl (!decide (g = h))) H) : rNeD K (.ref a) (.ref b) H Q :=
  ⟨twoD g, twoD h, .lst f1 (.cons (.lst hc (dp_ints _)) (.cons (.lst hd (dp_ints _)) .nil)), .lst f2 (.cons (.lst he (dp_ints _)) (.cons (.lst hf (dp_ints _)) .nil)), shaped_two g, shaped_two h, by rw [eqv_two]; exact q⟩
end
section
variable {g : TG} {tt : TT} {te : TE} {vs : List Nat} {σ : L2.St} {Q : VK} {H1 : Hp} {K : PySem.W.Frag} {wi : TI}
theorem turn_flt {i : Nat} {x : V} {b : Bool} (h : ∀ H', Ex H1 H' → ∀ R : Bool → Hp → Prop, R b H' → tt ((wipe σ [i]).set i (some x)) H' R) (w : wipe ((wipe σ [i]).set i (some x)) [i] = wipe σ [i] := by rfl) (v : ((wipe σ [i]).set i (some x))[i]? = some (some x) := by rfl) :
    turnR (gName i) tt (tVar i) [i] σ x (if b = true then some x else none) H1 :=
  fun H' e R r => ⟨w, h H' e _ (by
    cases b
    · exact r H' (Evl.Ex.refl _)
    · exact ⟨x, v, r H' (Evl.Ex.refl _)⟩)⟩
/-- the members of a range that a test keeps -/
def kept (n : Nat) (p : Nat → Bool) : List Int := ((List.range n).filter p).map fun i : Nat => (i : Int)
theorem kept_map (n : Nat) (p : Nat → Bool) : (List.range n).filterMap (fun i => if p i = true then some (V.int (i : Int)) else none) = (kept n p).map V.int := by
  unfold kept
  induction (List.range n) with
  | nil => rfl
  | cons x xs ih =>
    rw [List.filterMap_cons, List.filter_cons]
    by_cases h : p x = true
    · rw [if_pos h, if_pos h, List.map_cons, List.map_cons, ← ih]
    · rw [if_neg h, if_neg h, ← ih]
theorem mem_kept {n : Nat} {p : Nat → Bool} {x : Int} : x ∈ kept n p ↔ ∃ i : Nat, x = i ∧ i < n ∧ p i = true := by
  unfold kept
  rw [List.mem_map]
  constructor
  · rintro ⟨i, h, rfl⟩
    rw [List.mem_filter, List.mem_range] at h
    exact ⟨i, rfl, h.1, h.2⟩
  · rintro ⟨i, rfl, h1, h2⟩
    exact ⟨i, by rw [List.mem_filter, List.mem_range]; exact ⟨h1, h2⟩, rfl⟩
theorem kept_asc (n : Nat) (p : Nat → Bool) : Asc n (kept n p) := by
  refine ⟨?_, fun x m => ?_⟩
  · unfold kept
    rw [List.pairwise_map]
    refine List.Pairwise.imp (fun h => Int.ofNat_lt.mpr h) (List.Pairwise.filter p ?_)
    first | exact List.pairwise_lt_range | exact List.pairwise_lt_range _
  · obtain ⟨i, rfl, h, _⟩ := mem_kept.mp m
    omega
theorem cut_ints (ls : List Int) (lo hi : Option Int) : ∃ l' : List Int, cutV (ls.map V.int) lo hi = l'.map V.int ∧ (∀ x ∈ l', x ∈ ls) ∧ l'.length ≤ ls.length := by
  unfold cutV
  refine ⟨(ls.drop _).take _, by rw [List.map_take, List.map_drop], fun x m => List.mem_of_mem_drop (List.mem_of_mem_take m), ?_⟩
  rw [List.length_take, List.length_drop]
  omega
theorem cut_last {ls : List Int} (h : ls ≠ []) : ∃ l' : List Int, cutV (ls.map V.int) (some (-3)) none = l'.map V.int ∧ (∀ x ∈ l', x ∈ ls) ∧ l' ≠ [] := by
  refine ⟨(ls.drop _).take _, by unfold cutV; rw [List.map_take, List.map_drop], fun x m => List.mem_of_mem_drop (List.mem_of_mem_take m), fun e => ?_⟩
  have hl : 0 < ls.length := List.length_pos_iff.mpr h
  have z := congrArg List.length e
  rw [List.length_take, List.length_drop, List.length_map, HT.sIx_none] at z
  have s : HT.sIx ls.length 0 (some (-3)) = (-3 + (ls.length : Int)).toNat := by
    show (if (-3 : Int) < 0 then (-3 + (ls.length : Int)).toNat else min (-3 : Int).toNat ls.length) = _
    rw [if_pos (by decide)]
  rw [s, List.length_nil] at z
  omega
theorem rng_map (n : Nat) (f : Nat → Int) : (List.range n).filterMap (fun i => some (V.int (f i))) = ((List.range n).map f).map V.int := by
  induction (List.range n) with
  | nil => rfl
  | cons x xs ih => rw [List.filterMap_cons, List.map_cons, List.map_cons, ← ih]
theorem atI_in {ls : List Int} {k : Int} (h0 : 0 ≤ k) (h1 : k < ls.length) : ∃ z, z ∈ ls ∧ atI (ls.map V.int) k = some (.int z) ∧ z = ls.getD k.toNat 0 := by
  obtain ⟨z, hz, e⟩ := at_int h0 h1
  exact ⟨z, List.mem_of_getElem? hz, e, by rw [List.getD_eq_getElem?_getD, hz]; rfl⟩
end
theorem dg_of {ds : List Int} (hd : ∀ d ∈ ds, 0 ≤ d ∧ d < 60) {k : Int} (h0 : 0 ≤ k) (hk : k < ds.length) : ∃ z, atI (ds.map V.int) k = some (.int z) ∧ (0 ≤ z ∧ z < 60) ∧ z = ds.getD k.toNat 0 := by
  obtain ⟨z, m, e, f⟩ := atI_in h0 hk
  exact ⟨z, e, hd z m, f⟩
/-- the height that a law reckons of a new game -/
def HgtL (G : List Pr) (hs : List Int) (p : Pr) (hs' : List Int) : Prop := (p ∈ G ∧ hs' = hs) ∨ (p ∉ G ∧ ∃ m, hs' = hs ++ [m] ∧ m ∈ (0 :: (p.1 ++ p.2).map fun k => 1 + hat hs k) ∧ ∀ y ∈ (0 :: (p.1 ++ p.2).map fun k => 1 + hat hs k), y ≤ m)
section
variable {P : Program} {w : World} {K : PySem.W.Frag} {H H' : Hp} {F : Foot} {G : List Pr} {hs : List Int} {ts : List (Key × V)}
theorem k_if2 {b : Bool} {x y : V} {σ : L2.St} {Q : VK} (q : ∀ v, v = x ∨ v = y → Q v H) : if b = true then tC x σ H Q else tC y σ H Q := by
  cases b
  · exact q y (Or.inr rfl)
  · exact q x (Or.inl rfl)
theorem k_revL {te : TE} {σ : L2.St} {Q : VK} (q : te σ H fun x H1 => ∃ a xs, x = .ref a ∧ SqL K H1 a xs ∧ ∀ p, H1 p = none → Q (.ref p) (upd H1 p (.lst xs.reverse))) : tRevL K te σ H Q := q
theorem sql_keep {Z : Addr → Prop} {a : Addr} {xs : List V} (h : SqL K H a xs) (k : Keep Z H H') (z : ∀ o, H a = some o → ¬ Z a) : SqL K H' a xs := by
  rcases h with (h | ⟨o, h⟩) | h
  · exact Or.inl (Or.inl (k _ _ h (z _ h)))
  · exact Or.inl (Or.inr ⟨o, k _ _ h (z _ h)⟩)
  · exact Or.inr h
/-- one list, not the yard's, is changed -/
theorem YardAt.but (Y : YardAt P w K H F G hs ts) {p : Addr} {ys : List V} (hp : H p = some (.lst ys)) (off : Off F p) (k : ∀ c o, H c = some o → c ≠ p → H' c = some o) : YardAt P w K H' F G hs ts := by
  obtain ⟨o1, o2, o3, o4, o5⟩ := off
  have t : ∀ c zs, H c = some (.tup zs) → H' c = some (.tup zs) := fun c zs z => k _ _ z (ne_of z hp (by intro y; cases y))
  exact ⟨k _ _ Y.ins (ne_of Y.ins hp (by intro y; cases y)), let ⟨xs, h1, h2⟩ := Y.ls; ⟨xs, k _ _ h1 o1.symm, h2.ex t⟩, let ⟨xs, h1, h2⟩ := Y.rs; ⟨xs, k _ _ h1 o2.symm, h2.ex t⟩, ⟨k _ _ Y.hs.1 o3.symm, Y.hs.2⟩,
    let ⟨kvs, h1, h2, h3⟩ := Y.ns; ⟨kvs, k _ _ h1 o4.symm, fun x m => (h2 x m).ex t, h3⟩, k _ _ Y.ts o5.symm, Y.ne, Y.ht, Y.G⟩
end
/-- 0, 1, .. below n -/
def nums (n : Nat) : List Int := (List.range n).map fun i : Nat => (i : Int)
theorem nums_len (n : Nat) : (nums n).length = n := by unfold nums; rw [List.length_map, List.length_range]
theorem nums_at {n : Nat} {k : Int} (h0 : 0 ≤ k) (h1 : k < n) : atI ((nums n).map V.int) k = some (V.int k) := by
  obtain ⟨z, hz, e⟩ := at_int (ns := nums n) h0 (by rw [nums_len]; exact h1)
  rw [e]
  unfold nums at hz
  rw [List.getElem?_map, List.getElem?_range (by omega)] at hz
  have hz : ((k.toNat : Nat) : Int) = z := Option.some.inj hz
  rw [← hz, show ((k.toNat : Nat) : Int) = k by omega]
theorem nums_succ (n : Nat) : nums (n + 1) = nums n ++ [(n : Int)] := by unfold nums; rw [List.range_succ, List.map_append]; rfl
theorem mem_nums {n : Nat} {k : Int} : k ∈ nums n ↔ 0 ≤ k ∧ k < n := by
  unfold nums
  rw [List.mem_map]
  constructor
  · rintro ⟨i, m, rfl⟩
    have := List.mem_range.mp m
    omega
  · rintro ⟨h0, h1⟩
    exact ⟨k.toNat, List.mem_range.mpr (by omega), by omega⟩
theorem onI_id (ns : List Int) : (ns.map V.int).filterMap (onI fun k => k) = ns.map V.int := by rw [onI_map, List.map_id']
theorem sorted_asc {l l' : List Int} (p : l'.Perm l) (le : l'.Pairwise (· ≤ ·)) (a : l.Pairwise (· < ·)) : l' = l := by
  have nd : l'.Nodup := p.nodup_iff.mpr (List.Pairwise.imp (fun h => Int.ne_of_lt h) a)
  exact asc_ext (lt_of_le_nodup l' le nd) a fun k => p.mem_iff
theorem k_sortA {K : PySem.W.Frag} {H : Hp} {Q : VK} {a : Addr} {ns : List Int} (h : SqL K H a (ns.map V.int)) (asc : ns.Pairwise (· < ·)) (q : ∀ p, H p = none → Q (.ref p) (upd H p (.lst (ns.map V.int)))) : rSortedI K [.ref a] H Q :=
  ⟨a, ns, rfl, h, fun ns' p pm le n => by rw [sorted_asc pm le asc]; exact q p n⟩
theorem nums_asc (n : Nat) : Asc n (nums n) := by
  refine ⟨?_, fun x m => mem_nums.mp m⟩
  unfold nums
  rw [List.pairwise_map]
  refine List.Pairwise.imp (fun h => Int.ofNat_lt.mpr h) ?_
  first | exact List.pairwise_lt_range | exact List.pairwise_lt_range _
theorem isHt_one {hs : List Int} {g : Pr} {h h' : Int} (a : IsHt hs g h) (b : IsHt hs g h') : h = h' := by
  rcases a with ⟨e, rfl⟩ | ⟨m, mm, ml, rfl⟩
  · rcases b with ⟨_, rfl⟩ | ⟨m', mm', _⟩
    · rfl
    · rw [e] at mm'; simp at mm'
  · rcases b with ⟨e, _⟩ | ⟨m', mm', ml', rfl⟩
    · rw [e] at mm; simp at mm
    · have h1 := ml m' mm'
      have h2 := ml' m mm
      omega
theorem ht_same {G G' : List Pr} {hs hs' : List Int} (o : HtOk G hs) (o' : HtOk G' hs') (sub : ∀ (i : Nat) (g : Pr), G[i]? = some g → G'[i]? = some g) (f : Forms G) : ∀ (n i : Nat), i < n → i < G.length → hat hs i = hat hs' i := by
  intro n
  induction n with
  | zero => intro i h; exact absurd h (Nat.not_lt_zero _)
  | succ n ih =>
    intro i hi hl
    have hg := List.getElem?_eq_getElem hl
    have a := o i _ hg
    have b := o' i _ (sub i _ hg)
    obtain ⟨a1, a2⟩ := f.asc i _ hg
    have e : (G[i].1 ++ G[i].2).map (hat hs) = (G[i].1 ++ G[i].2).map (hat hs') := by
      refine List.map_congr_left fun k m => ?_
      have bk := Asc.both a1 a2 k m
      have := ih k.toNat (by omega) (by omega)
      rw [show ((k.toNat : Nat) : Int) = k by omega] at this
      exact this
    unfold IsHt at b
    rw [← e] at b
    exact isHt_one a b
theorem nodup_le : ∀ (l m : List Int), l.Nodup → (∀ x ∈ l, x ∈ m) → l.length ≤ m.length
  | [], _, _, _ => Nat.zero_le _
  | x :: l, m, n, s => by
    obtain ⟨n1, n2⟩ := List.nodup_cons.mp n
    have hx := s x List.mem_cons_self
    have h := nodup_le l (m.erase x) n2 fun y my => (List.mem_erase_of_ne (fun (e : y = x) => n1 (e ▸ my))).mpr (s y (List.mem_cons_of_mem _ my))
    rw [List.length_erase_of_mem hx] at h
    have := List.length_pos_of_mem hx
    rw [List.length_cons]
    omega
/-- who is reached from k past none of the done -/
inductive Rch (G : List Pr) (dk : Int → Bool) (k : Int) : Int → Prop
  | root : dk k = false → Rch G dk k k
  | step {i j : Int} {g : Pr} : Rch G dk k i → G[i.toNat]? = some g → j ∈ g.1 ++ g.2 → dk j = false → Rch G dk k j
def dkey (kvs : List (Key × V)) : Int → Bool := fun j => (valV kvs (Sum.inl j)).isSome
theorem Rch.bound {G : List Pr} {dk : Int → Bool} {k j : Int} (f : Forms G) (h0 : 0 ≤ k ∧ k < G.length) (r : Rch G dk k j) : 0 ≤ j ∧ j ≤ k := by
  induction r with
  | root _ => exact ⟨h0.1, Int.le_refl _⟩
  | @step i j g r hg m _ ih =>
    obtain ⟨a1, a2⟩ := f.asc _ _ hg
    have := Asc.both a1 a2 _ m
    omega
end Mine
namespace Mine
open PySem PySem.Spec PyProof.Rows L2
open PySem.AutoSeq1
set_option maxHeartbeats 1600000 in
theorem tuple_mul_one (l : Addr) (items : Array Value) (n : Nat) (dd : Option Addr) (sl : Array (Option Value)) (u : Tok) :
    Meets (Builtin.«tuple.__mul__» ⟨[.ref l, .int 1 u], []⟩) (fun _ R s => s.heap.get? l = some { cls := .type "tuple", dict := dd, data := .seq items n, slots := sl } ∧ R (.ok (.ret (.ref l))) s) :=
  .of_wp fun prog w A R s h => by
    obtain ⟨h1, h⟩ := h
    unfold Builtin.«tuple.__mul__»
    wp_walk
    exact ⟨_, rfl, h⟩
set_option maxHeartbeats 1600000 in
theorem tuple_mul_zero (l : Addr) (items : Array Value) (n : Nat) (dd : Option Addr) (sl : Array (Option Value)) (u : Tok) (he : items.isEmpty = false) :
    Meets (Builtin.«tuple.__mul__» ⟨[.ref l, .int 0 u], []⟩) (fun _ R s => s.heap.get? l = some { cls := .type "tuple", dict := dd, data := .seq items n, slots := sl } ∧ R (.ok (.ret (.ref s.heap.objs.size))) { s with heap := s.heap.push { cls := .type "tuple", data := .seq #[] } }) :=
  .of_wp fun prog w A R s h => by
    obtain ⟨h1, h⟩ := h
    unfold Builtin.«tuple.__mul__»
    wp_walk
    exact ⟨_, rfl, h⟩
end Mine
namespace Mine
open PySem PySem.Spec PyProof.Rows L2
def rRepA (K : PySem.W.Frag) : R2 := fun x y H Q => ∃ l k xs, x = .ref l ∧ y = .int k ∧ SqT K H l xs ∧ xs ≠ [] ∧ 0 ≤ k ∧ k ≤ 1000 ∧ xs.length ≤ 1000 ∧ (k = 1 → Q (.ref l) H) ∧ (k ≠ 1 → ∀ p, H p = none → Q (.ref p) (upd H p (.tup (List.replicate k.toNat xs).flatten)))
theorem op_repA {X : Cx} : OpR X (binaryOp .Mult) (rRepA X.K) := by
  rintro pins s σ H x y v u Q I rx ry ⟨l, k, xs, rfl, rfl, hq, ne, k0, k1000, l1000, q1, q2⟩
  rcases (show k = 0 ∨ k = 1 ∨ 2 ≤ k by omega) with rfl | rfl | k2
  · obtain ⟨its, rv, ⟨o, ho, hc, n, hd⟩, hz⟩ := I.tuple hq
    have q := q2 (by decide)
    cases rx
    obtain ⟨tk, rfl⟩ := ry
    obtain ⟨cls, dd, dat, sl⟩ := o
    cases hc
    cases hd
    have he : its.toArray.isEmpty = false := by
      cases its with
      | nil => cases rv; exact absurd rfl ne
      | cons z zs => rfl
    refine wpAny_binaryOp_repeat_ref (T := "tuple") (U := "int") (by decide) ⟨_, ho, rfl⟩ (fun s' => typeIs_int s' 0 tk) noFill_tuple_mul F.fills_int_mul F.slot_int_rmul repeat_tuple F.slot_int_index.lookup ?_
    refine call_meets F.slot_int_rmul (typeIs_int _ 0 tk) F.entry_int_rmul (F.args_int_rmul_2 _ _) (int_rmul_tuple 0 tk l its.toArray n dd sl) ⟨ho, rfl, ⟨_, ho, rfl⟩, ?_⟩
    refine call_meets F.slot_tuple_mul ⟨_, ho, rfl⟩ F.entry_tuple_mul (F.args_tuple_mul_2 _ _) (tuple_mul_zero l its.toArray n dd sl tk he) ⟨ho, ?_⟩
    refine ⟨.ref s.heap.objs.size, upd H s.heap.objs.size (.tup []), I.laid (fun b u h => Heap.get?_push_of_some _ h) (Nat.le_refl _) ?_, rfl, q _ (I.hok.fresh (Nat.le_refl _))⟩
    exact ⟨Nat.zero_le _, [], .nil, IsTup.new _ _⟩
  · obtain ⟨its, rv, ⟨o, ho, hc, n, hd⟩, hz⟩ := I.tuple hq
    cases rx
    obtain ⟨tk, rfl⟩ := ry
    obtain ⟨cls, dd, dat, sl⟩ := o
    cases hc
    cases hd
    refine wpAny_binaryOp_repeat_ref (T := "tuple") (U := "int") (by decide) ⟨_, ho, rfl⟩ (fun s' => typeIs_int s' 1 tk) noFill_tuple_mul F.fills_int_mul F.slot_int_rmul repeat_tuple F.slot_int_index.lookup ?_
    refine call_meets F.slot_int_rmul (typeIs_int _ 1 tk) F.entry_int_rmul (F.args_int_rmul_2 _ _) (int_rmul_tuple 1 tk l its.toArray n dd sl) ⟨ho, rfl, ⟨_, ho, rfl⟩, ?_⟩
    refine call_meets F.slot_tuple_mul ⟨_, ho, rfl⟩ F.entry_tuple_mul (F.args_tuple_mul_2 _ _) (tuple_mul_one l its.toArray n dd sl tk) ⟨ho, ?_⟩
    exact ⟨.ref l, H, I, rfl, q1 rfl⟩
  · exact op_repT pins s σ H _ _ v u Q I rx ry ⟨l, k, xs, rfl, rfl, hq, ne, k2, k1000, l1000, q2 (by omega)⟩
end Mine
namespace Mine
open PySem PySem.Spec PyProof.Rows L2
open Evl (Ex)
/-! what a cell and its digits are, as functions -/
def cellF (ns : List Int) (k : Int) : Int := if k < ns.length then ns.getD k.toNat 0 else ns.foldl (fun m c => (m * 31 + c) % 2147483647) (104729 * k + 7)
def dgA (c : Int) : Nat → List Int × Int
  | 0 => ([], c)
  | i + 1 => ((dgA c i).1 ++ [(dgA c i).2 % 60], (dgA c i).2 / 60)
def dgB (c : Int) : Nat → List Int × Int
  | 0 => ([], (c * 48271 + 11) % 2147483647)
  | i + 1 => ((dgB c i).1 ++ [((dgB c i).2 * 69621 + 7 * (i : Int) + 1) % 2147483629 / 64 % 60], ((dgB c i).2 * 69621 + 7 * (i : Int) + 1) % 2147483629)
def dgF (c : Int) (n : Nat) : List Int := if 1000000000000000000 ≤ c then (dgA c n).1 else (dgB c n).1
theorem dgA_len (c : Int) : ∀ n, (dgA c n).1.length = n
  | 0 => rfl
  | n + 1 => by show ((dgA c n).1 ++ [_]).length = _; rw [List.length_append, dgA_len c n]; rfl
theorem dgB_len (c : Int) : ∀ n, (dgB c n).1.length = n
  | 0 => rfl
  | n + 1 => by show ((dgB c n).1 ++ [_]).length = _; rw [List.length_append, dgB_len c n]; rfl
theorem dgF_len (c : Int) (n : Nat) : (dgF c n).length = n := by
  unfold dgF
  split
  · exact dgA_len c n
  · exact dgB_len c n
theorem dgA_in (c : Int) : ∀ n, ∀ d ∈ (dgA c n).1, 0 ≤ d ∧ d < 60
  | 0, d, m => by cases m
  | n + 1, d, m => by
    rcases List.mem_append.mp (show d ∈ (dgA c n).1 ++ [_] from m) with m | m
    · exact dgA_in c n d m
    · rw [List.mem_singleton.mp m]; omega
theorem dgB_in (c : Int) : ∀ n, ∀ d ∈ (dgB c n).1, 0 ≤ d ∧ d < 60
  | 0, d, m => by cases m
  | n + 1, d, m => by
    rcases List.mem_append.mp (show d ∈ (dgB c n).1 ++ [_] from m) with m | m
    · exact dgB_in c n d m
    · rw [List.mem_singleton.mp m]; omega
theorem dgF_in (c : Int) (n : Nat) : ∀ d ∈ dgF c n, 0 ≤ d ∧ d < 60 := by
  unfold dgF
  split
  · exact dgA_in c n
  · exact dgB_in c n
/-! cakes -/
structure FCakes (K : PySem.W.Frag) : Prop where
  cl : Cls K (He.ga K "Cakes")
  na : NoAttr K (He.ga K "Cakes") "_cakes"
def cfs (t : Addr) : List (Str × V) := putF "_cakes" (.ref t) []
theorem cfs_get (t : Addr) : (cfs t).lookup ("_cakes" : Str) = some (.ref t) := by
  unfold cfs
  rw [lookup_putF, if_pos rfl]
theorem cfs_no (t : Addr) {m : Str} (h : ¬ m = "_cakes") : (cfs t).lookup m = none := by
  unfold cfs
  rw [lookup_putF, if_neg h]
  rfl
abbrev Ck := Int × Int
def CkAt (H : Hp) (y : V) (c : Ck) : Prop := ∃ a, y = .ref a ∧ H a = some (.tup [.int c.1, .int c.2])
theorem CkAt.keep {H H' : Hp} {y : V} {c : Ck} (h : CkAt H y c) (k : ∀ c o, H c = some o → (∀ ys, o ≠ .lst ys) → H' c = some o) : CkAt H' y c := let ⟨a, r, z⟩ := h; ⟨a, r, k _ _ z (fun ys z => by cases z)⟩
theorem CkAt.ex {H H' : Hp} {y : V} {c : Ck} (h : CkAt H y c) (e : Ex H H') : CkAt H' y c := h.keep fun c o z _ => e c o z
/-- a list of things, each with its property -/
def AllAt {α : Type} (P : Hp → V → α → Prop) (H : Hp) (xs : List V) (cs : List α) : Prop := xs.length = cs.length ∧ ∀ (i : Nat) (c : α), cs[i]? = some c → ∃ y, xs[i]? = some y ∧ P H y c
theorem AllAt.imp {α : Type} {P : Hp → V → α → Prop} {H H' : Hp} {xs : List V} {cs : List α} (h : AllAt P H xs cs) (f : ∀ y c, P H y c → P H' y c) : AllAt P H' xs cs := ⟨h.1, fun i c q => let ⟨y, h1, h2⟩ := h.2 i c q; ⟨y, h1, f _ _ h2⟩⟩
theorem get_snoc2 {α : Type} {l : List α} {x y : α} {i : Nat} (h : (l ++ [x])[i]? = some y) : l[i]? = some y ∨ (i = l.length ∧ y = x) := by
  rcases Nat.lt_or_ge i l.length with c | c
  · rw [List.getElem?_append_left c] at h; exact Or.inl h
  · have l2 := (List.getElem?_eq_some_iff.mp h).1
    rw [List.length_append, List.length_singleton] at l2
    have e : i = l.length := by omega
    subst e
    rw [List.getElem?_append_right (Nat.le_refl _), Nat.sub_self] at h
    exact Or.inr ⟨rfl, (Option.some.inj h).symm⟩
theorem AllAt.nil {α : Type} {P : Hp → V → α → Prop} {H : Hp} : AllAt P H [] [] := ⟨rfl, fun i c h => by simp at h⟩
theorem AllAt.app {α : Type} {P : Hp → V → α → Prop} {H : Hp} {xs ys : List V} {cs ds : List α} (h : AllAt P H xs cs) (h' : AllAt P H ys ds) : AllAt P H (xs ++ ys) (cs ++ ds) := by
  refine ⟨by rw [List.length_append, List.length_append, h.1, h'.1], fun i c q => ?_⟩
  rcases Nat.lt_or_ge i cs.length with l | l
  · rw [List.getElem?_append_left l] at q
    obtain ⟨y, h1, h2⟩ := h.2 i c q
    exact ⟨y, by rw [List.getElem?_append_left (by rw [h.1]; exact l)]; exact h1, h2⟩
  · rw [List.getElem?_append_right l] at q
    obtain ⟨y, h1, h2⟩ := h'.2 _ c q
    exact ⟨y, by rw [List.getElem?_append_right (by rw [h.1]; exact l), h.1]; exact h1, h2⟩
theorem AllAt.one {α : Type} {P : Hp → V → α → Prop} {H : Hp} {y : V} {c : α} (h : P H y c) : AllAt P H [y] [c] := by
  refine ⟨rfl, fun i d q => ?_⟩
  match i with
  | 0 => cases q; exact ⟨y, rfl, h⟩
  | i + 1 => cases q
theorem AllAt.take {α : Type} {P : Hp → V → α → Prop} {H : Hp} {xs : List V} {cs : List α} (h : AllAt P H xs cs) (n : Nat) : AllAt P H (xs.take n) (cs.take n) := by
  refine ⟨by rw [List.length_take, List.length_take, h.1], fun i c q => ?_⟩
  have l := (List.getElem?_eq_some_iff.mp q).1
  rw [List.length_take] at l
  rw [List.getElem?_take_of_lt (by omega)] at q
  obtain ⟨y, h1, h2⟩ := h.2 i c q
  exact ⟨y, by rw [List.getElem?_take_of_lt (by omega)]; exact h1, h2⟩
theorem AllAt.drop {α : Type} {P : Hp → V → α → Prop} {H : Hp} {xs : List V} {cs : List α} (h : AllAt P H xs cs) (n : Nat) : AllAt P H (xs.drop n) (cs.drop n) := by
  refine ⟨by rw [List.length_drop, List.length_drop, h.1], fun i c q => ?_⟩
  rw [List.getElem?_drop] at q
  obtain ⟨y, h1, h2⟩ := h.2 _ c q
  exact ⟨y, by rw [List.getElem?_drop]; exact h1, h2⟩
theorem AllAt.rep {α : Type} {P : Hp → V → α → Prop} {H : Hp} {y : V} {c : α} (h : P H y c) : ∀ n : Nat, AllAt P H (List.replicate n [y]).flatten (List.replicate n c)
  | 0 => .nil
  | n + 1 => by
    rw [List.replicate_succ, List.replicate_succ, List.flatten_cons]
    exact AllAt.app (cs := [c]) (.one h) (AllAt.rep h n)
abbrev CsAt := AllAt CkAt
theorem CsAt.keep {H H' : Hp} {xs : List V} {cs : List Ck} (h : CsAt H xs cs) (k : ∀ c o, H c = some o → (∀ ys, o ≠ .lst ys) → H' c = some o) : CsAt H' xs cs := h.imp fun y c q => q.keep k
theorem CsAt.ex {H H' : Hp} {xs : List V} {cs : List Ck} (h : CsAt H xs cs) (e : Ex H H') : CsAt H' xs cs := h.imp fun y c q => q.ex e
/-- a board of cakes -/
def CbAt (K : PySem.W.Frag) (H : Hp) (b : Addr) (cs : List Ck) : Prop := ∃ dx t xs, H b = some (.ins (He.ga K "Cakes") dx (cfs t)) ∧ H t = some (.tup xs) ∧ CsAt H xs cs
theorem CbAt.keep {K : PySem.W.Frag} {H H' : Hp} {b : Addr} {cs : List Ck} (h : CbAt K H b cs) (k : ∀ c o, H c = some o → (∀ ys, o ≠ .lst ys) → H' c = some o) : CbAt K H' b cs :=
  let ⟨dx, t, xs, h1, h2, h3⟩ := h; ⟨dx, t, xs, k _ _ h1 (fun ys z => by cases z), k _ _ h2 (fun ys z => by cases z), h3.keep k⟩
theorem CbAt.ex {K : PySem.W.Frag} {H H' : Hp} {b : Addr} {cs : List Ck} (h : CbAt K H b cs) (e : Ex H H') : CbAt K H' b cs := h.keep fun c o z _ => e c o z
theorem CbAt.set {K : PySem.W.Frag} {H : Hp} {b p : Addr} {cs : List Ck} {ys : List V} {o : HO} (h : CbAt K H b cs) (hp : H p = some (.lst ys)) : CbAt K (upd H p o) b cs :=
  h.keep fun c q z n => (upd_ne fun e => n ys (by rw [e, hp] at z; exact (Option.some.inj z).symm)).trans z
def CbV (K : PySem.W.Frag) (H : Hp) (y : V) (cs : List Ck) : Prop := ∃ b, y = .ref b ∧ CbAt K H b cs
/-- a value that is due -/
def DuC (H : Hp) (y : V) (cs : List Ck) : Prop := ∃ d u xs, y = .ref d ∧ H d = some (.tup [.str "cakes", .ref u]) ∧ H u = some (.tup xs) ∧ CsAt H xs cs
theorem DuC.keep {H H' : Hp} {y : V} {cs : List Ck} (h : DuC H y cs) (k : ∀ c o, H c = some o → (∀ ys, o ≠ .lst ys) → H' c = some o) : DuC H' y cs :=
  let ⟨d, u, xs, e, h1, h2, h3⟩ := h; ⟨d, u, xs, e, k _ _ h1 (fun ys z => by cases z), k _ _ h2 (fun ys z => by cases z), h3.keep k⟩
theorem DuC.ex {H H' : Hp} {y : V} {cs : List Ck} (h : DuC H y cs) (e : Ex H H') : DuC H' y cs := h.keep fun c o z _ => e c o z
/-- the squares of some cakes -/
def sqs (cs : List Ck) : Int := (cs.map fun c => c.1 * c.2).sum
def OkK (c : Ck) : Prop := 1 ≤ c.1 ∧ c.1 ≤ 12 ∧ 1 ≤ c.2 ∧ c.2 ≤ 12
def OkC (cs : List Ck) : Prop := (∀ c ∈ cs, OkK c) ∧ sqs cs ≤ 144
theorem sqs_app (a b : List Ck) : sqs (a ++ b) = sqs a + sqs b := by
  unfold sqs
  rw [List.map_append, List.sum_append]
theorem sqs_cons (c : Ck) (b : List Ck) : sqs (c :: b) = c.1 * c.2 + sqs b := by
  unfold sqs
  rw [List.map_cons, List.sum_cons]
theorem okK_sq {c : Ck} (h : OkK c) : 1 ≤ c.1 * c.2 ∧ c.1 * c.2 ≤ 144 := by
  obtain ⟨a, b, d, e⟩ := h
  refine ⟨?_, ?_⟩
  · have := Int.mul_le_mul a d (by decide) (by omega)
    omega
  · have := Int.mul_le_mul b e (by omega) (by omega)
    omega
theorem len_sqs : ∀ {cs : List Ck}, (∀ c ∈ cs, OkK c) → (cs.length : Int) ≤ sqs cs
  | [], _ => by decide
  | c :: cs, h => by
    have h1 := okK_sq (h c (List.mem_cons_self ..))
    have h2 := len_sqs fun c m => h c (List.mem_cons_of_mem _ m)
    rw [sqs_cons, List.length_cons]
    omega
theorem OkC.len {cs : List Ck} (h : OkC cs) : cs.length ≤ 144 := by
  have := len_sqs h.1
  have := h.2
  omega
/-- the pairs of pieces of a cake -/
def cutsC (s : Str) (c : Ck) : List (Ck × Ck) := if s = "left" then (List.range (c.2 - 1).toNat).map fun (j : Nat) => ((c.1, 1 + (j : Int)), (c.1, c.2 - (1 + (j : Int)))) else (List.range (c.1 - 1).toNat).map fun (j : Nat) => ((1 + (j : Int), c.2), (c.1 - (1 + (j : Int)), c.2))
def mvAtC (s : Str) (cs : List Ck) (i : Nat) : List (List Ck) := (cutsC s (cs.getD i (1, 1))).map fun two => cs.take i ++ [two.1, two.2] ++ cs.drop (i + 1)
def mvsC (s : Str) (cs : List Ck) : List (List Ck) := (List.range cs.length).flatMap (mvAtC s cs)
theorem cuts_ok {s : Str} {c : Ck} (h : OkK c) {two : Ck × Ck} (m : two ∈ cutsC s c) : OkK two.1 ∧ OkK two.2 ∧ two.1.1 * two.1.2 + two.2.1 * two.2.2 = c.1 * c.2 := by
  obtain ⟨a, b, d, e⟩ := h
  unfold cutsC at m
  split at m
  · obtain ⟨j, hj, rfl⟩ := List.mem_map.mp m
    have hj := List.mem_range.mp hj
    refine ⟨⟨a, b, by show 1 ≤ 1 + (j : Int); omega, by show 1 + (j : Int) ≤ 12; omega⟩, ⟨a, b, by show 1 ≤ c.2 - (1 + (j : Int)); omega, by show c.2 - (1 + (j : Int)) ≤ 12; omega⟩, ?_⟩
    show c.1 * (1 + (j : Int)) + c.1 * (c.2 - (1 + (j : Int))) = c.1 * c.2
    rw [← Int.mul_add]
    congr 1
    omega
  · obtain ⟨j, hj, rfl⟩ := List.mem_map.mp m
    have hj := List.mem_range.mp hj
    refine ⟨⟨by show 1 ≤ 1 + (j : Int); omega, by show 1 + (j : Int) ≤ 12; omega, d, e⟩, ⟨by show 1 ≤ c.1 - (1 + (j : Int)); omega, by show c.1 - (1 + (j : Int)) ≤ 12; omega, d, e⟩, ?_⟩
    show (1 + (j : Int)) * c.2 + (c.1 - (1 + (j : Int))) * c.2 = c.1 * c.2
    rw [← Int.add_mul]
    congr 1
    omega
theorem cuts_len {s : Str} {c : Ck} (h : OkK c) : (cutsC s c).length ≤ 11 := by
  obtain ⟨a, b, d, e⟩ := h
  unfold cutsC
  split
  · rw [List.length_map, List.length_range]; omega
  · rw [List.length_map, List.length_range]; omega
theorem get_mem {α : Type} {cs : List α} {i : Nat} (h : i < cs.length) (d : α) : cs.getD i d ∈ cs ∧ cs = cs.take i ++ [cs.getD i d] ++ cs.drop (i + 1) := by
  have e : cs.getD i d = cs[i] := by rw [List.getD_eq_getElem?_getD, List.getElem?_eq_getElem h]; rfl
  refine ⟨by rw [e]; exact List.getElem_mem h, ?_⟩
  rw [e, List.append_assoc]
  show cs = cs.take i ++ (cs[i] :: cs.drop (i + 1))
  rw [← List.drop_eq_getElem_cons h, List.take_append_drop]
theorem ok_mv {s : Str} {cs : List Ck} (ok : OkC cs) {i : Nat} (hi : i < cs.length) {two : Ck × Ck} (m : two ∈ cutsC s (cs.getD i (1, 1))) : OkC (cs.take i ++ [two.1, two.2] ++ cs.drop (i + 1)) := by
  obtain ⟨gm, ge⟩ := get_mem hi (1, 1)
  obtain ⟨o1, o2, o3⟩ := cuts_ok (ok.1 _ gm) m
  refine ⟨fun c m => ?_, ?_⟩
  · rcases List.mem_append.mp m with m | m
    · rcases List.mem_append.mp m with m | m
      · exact ok.1 c (List.mem_of_mem_take m)
      · rcases List.mem_cons.mp m with rfl | m
        · exact o1
        · rw [List.mem_singleton.mp m]; exact o2
    · exact ok.1 c (List.mem_of_mem_drop m)
  · have h := ok.2
    rw [ge, sqs_app, sqs_app, sqs_cons] at h
    rw [sqs_app, sqs_app, sqs_cons, sqs_cons]
    have z : sqs [] = 0 := rfl
    omega
theorem mvs_ok {s : Str} {cs : List Ck} (ok : OkC cs) : ∀ m ∈ mvsC s cs, OkC m := by
  intro m h
  obtain ⟨i, hi, h⟩ := List.mem_flatMap.mp h
  obtain ⟨two, ht, rfl⟩ := List.mem_map.mp h
  exact ok_mv ok (List.mem_range.mp hi) ht
theorem mvs_len {s : Str} {cs : List Ck} (ok : OkC cs) (n : Nat) (h : n ≤ cs.length) : ((List.range n).flatMap (mvAtC s cs)).length ≤ 11 * n := by
  induction n with
  | zero => exact Nat.le_refl _
  | succ n ih =>
    have h1 := ih (by omega)
    rw [List.range_succ, List.flatMap_append, List.length_append]
    have h2 : ([n].flatMap (mvAtC s cs)).length ≤ 11 := by
      rw [List.flatMap_cons, List.flatMap_nil, List.append_nil]
      unfold mvAtC
      rw [List.length_map]
      exact cuts_len (ok.1 _ (get_mem (show n < cs.length by omega) (1, 1)).1)
    omega
end Mine
namespace Mine
open PySem PySem.Spec PyProof.Rows L2
open Evl (Ex)
/-- two pieces -/
def TwAt (H : Hp) (y : V) (two : Ck × Ck) : Prop := ∃ a y1 y2, y = .ref a ∧ H a = some (.tup [y1, y2]) ∧ CkAt H y1 two.1 ∧ CkAt H y2 two.2
theorem TwAt.keep {H H' : Hp} {y : V} {c : Ck × Ck} (h : TwAt H y c) (k : ∀ c o, H c = some o → (∀ ys, o ≠ .lst ys) → H' c = some o) : TwAt H' y c := let ⟨a, y1, y2, r, z, h1, h2⟩ := h; ⟨a, y1, y2, r, k _ _ z (fun ys z => by cases z), h1.keep k, h2.keep k⟩
theorem TwAt.ex {H H' : Hp} {y : V} {c : Ck × Ck} (h : TwAt H y c) (e : Ex H H') : TwAt H' y c := h.keep fun c o z _ => e c o z
theorem CsAt.mv {H : Hp} {xs : List V} {cs : List Ck} {y1 y2 : V} {two : Ck × Ck} (R : CsAt H xs cs) (i : Nat) (h1 : CkAt H y1 two.1) (h2 : CkAt H y2 two.2) : CsAt H (xs.take i ++ [y1, y2] ++ xs.drop (i + 1)) (cs.take i ++ [two.1, two.2] ++ cs.drop (i + 1)) :=
  ((R.take i).app (AllAt.app (xs := [y1]) (ys := [y2]) (cs := [two.1]) (ds := [two.2]) (.one h1) (.one h2))).app (R.drop (i + 1))
theorem CbV.keep {K : PySem.W.Frag} {H H' : Hp} {y : V} {cs : List Ck} (h : CbV K H y cs) (k : ∀ c o, H c = some o → (∀ ys, o ≠ .lst ys) → H' c = some o) : CbV K H' y cs := let ⟨b, r, z⟩ := h; ⟨b, r, z.keep k⟩
theorem CbV.ex {K : PySem.W.Frag} {H H' : Hp} {y : V} {cs : List Ck} (h : CbV K H y cs) (e : Ex H H') : CbV K H' y cs := h.keep fun c o z _ => e c o z
abbrev BsC (K : PySem.W.Frag) (H : Hp) (ys : List V) (css : List (List Ck)) : Prop := AllAt (CbV K) H ys css
abbrev DsC (H : Hp) (ys : List V) (css : List (List Ck)) : Prop := AllAt DuC H ys css
end Mine
namespace Mine
open PySem PySem.Spec PyProof.Rows L2
open Evl (Ex)
/-- the data of a cake -/
def ckD (c : Ck) : PyData := .tuple ([c.1, c.2].map .int)
theorem CkAt.dp {K : PySem.W.Frag} {H : Hp} {y : V} {c : Ck} (h : CkAt H y c) : Dp K H y (ckD c) := by
  obtain ⟨a, rfl, ha⟩ := h
  exact .tup (k_st ha) (dp_ints [c.1, c.2])
theorem eqv_ck (c d : Ck) : (ckD c).eqv (ckD d) = decide (c = d) := by
  unfold ckD
  simp only [PyData.eqv, PySem.W.ked_eqvAll]
  obtain ⟨a, b⟩ := c
  obtain ⟨e, f⟩ := d
  by_cases h1 : a = e <;> by_cases h2 : b = f <;> simp [h1, h2]
theorem deep_ck (c : Ck) : (ckD c).depth = 1 := by
  unfold ckD
  simp only [PyData.depth, deep_ints]
theorem lay_ck (c : Ck) : (ckD c).canLay0 = true := by
  unfold ckD
  simp only [PyData.canLay0, lay_ints]
theorem shaped_ck (c : Ck) : SeqAt.shaped (ckD c) = true := by
  unfold SeqAt.shaped
  rw [lay_ck, decide_eq_true (by rw [deep_ck]; decide)]
  rfl
theorem k_neCk {K : PySem.W.Frag} {H : Hp} {Q : VK} {x y : V} {c d : Ck} (f1 : CkAt H x c) (f2 : CkAt H y d) (q : Q (.bl (!decide (c = d))) H) : rNeD K x y H Q :=
  ⟨ckD c, ckD d, f1.dp, f2.dp, shaped_ck c, shaped_ck d, by rw [eqv_ck]; exact q⟩
theorem AllAt.tail {α : Type} {P : Hp → V → α → Prop} {H : Hp} {y : V} {ys : List V} {c : α} {cs : List α} (h : AllAt P H (y :: ys) (c :: cs)) : P H y c ∧ AllAt P H ys cs := by
  refine ⟨?_, by have := h.1; rw [List.length_cons, List.length_cons] at this; omega, fun i r' q => ?_⟩
  · obtain ⟨y', h1, h2⟩ := h.2 0 c rfl
    cases h1; exact h2
  · obtain ⟨y', h1, h2⟩ := h.2 (i + 1) r' q
    exact ⟨y', h1, h2⟩
theorem CsAt.dp {K : PySem.W.Frag} {H : Hp} : ∀ {xs : List V} {cs : List Ck}, CsAt H xs cs → DpAll K H xs (cs.map ckD)
  | [], [], _ => .nil
  | y :: ys, r :: rs, h => .cons h.tail.1.dp (CsAt.dp h.tail.2)
  | [], _ :: _, h => absurd h.1 (by simp)
  | _ :: _, [], h => absurd h.1 (by simp)
theorem deep_cks : ∀ rs : List Ck, PyData.depthAll (rs.map ckD) ≤ 1
  | [] => by simp only [List.map_nil, PyData.depthAll]; decide
  | g :: rs => by
    have h := deep_cks rs
    simp only [List.map_cons, PyData.depthAll, deep_ck]
    omega
theorem lay_cks : ∀ rs : List Ck, PyData.canLayAll0 (rs.map ckD) = true
  | [] => rfl
  | g :: rs => by
    simp only [List.map_cons, PyData.canLayAll0, lay_ck, lay_cks rs]
    rfl
theorem shaped_cks (rs : List Ck) : SeqAt.shaped (.list (rs.map ckD)) = true := by
  have h := deep_cks rs
  have hd : (PyData.list (rs.map ckD)).depth ≤ 64 := by simp only [PyData.depth]; omega
  have hl : (PyData.list (rs.map ckD)).canLay0 = true := by simp only [PyData.canLay0]; exact lay_cks rs
  unfold SeqAt.shaped
  rw [hl, decide_eq_true hd]
  rfl
theorem eqvAll_cks : ∀ rs : List Ck, PyData.eqvAll (rs.map ckD) (rs.map ckD) = true
  | [] => by simp only [List.map_nil, PyData.eqvAll]
  | g :: rs => by
    simp only [List.map_cons, PyData.eqvAll, eqvAll_cks rs, eqv_ck]
    simp
theorem k_neCks {K : PySem.W.Frag} {H : Hp} {Q : VK} {a b : Addr} {xs : List V} {cs : List Ck} (h1 : SqL K H a xs) (h2 : SqL K H b xs) (R : CsAt H xs cs) (q : Q (.bl false) H) : rNeD K (.ref a) (.ref b) H Q :=
  ⟨_, _, .lst h1 R.dp, .lst h2 R.dp, shaped_cks cs, shaped_cks cs, by rw [PyData.eqv, eqvAll_cks]; exact q⟩
/-- the parts -/
def partsC (cs : List Ck) : List (List Ck) := (cs.filter fun c => !decide (c = (1, 1))).map fun c => [c]
theorem parts_len (cs : List Ck) : (partsC cs).length ≤ cs.length := by
  unfold partsC
  rw [List.length_map]
  exact List.length_filter_le _ _
theorem parts_take {cs : List Ck} {i : Nat} {c : Ck} (h : cs[i]? = some c) : partsC (cs.take (i + 1)) = partsC (cs.take i) ++ (if c = (1, 1) then [] else [[c]]) := by
  unfold partsC
  rw [List.take_add_one, h, List.filter_append, List.map_append]
  congr 1
  show ([c].filter fun c => !decide (c = (1, 1))).map _ = _
  by_cases z : c = (1, 1)
  · rw [if_pos z, List.filter_cons, decide_eq_true z]; rfl
  · rw [if_neg z, List.filter_cons, decide_eq_false z]; rfl
theorem okC_one {c : Ck} (h : OkK c) : OkC [c] := by
  refine ⟨fun d m => by rw [List.mem_singleton.mp m]; exact h, ?_⟩
  have := (okK_sq h).2
  rw [sqs_cons]
  have z : sqs [] = 0 := rfl
  omega
end Mine
namespace Mine
open PySem PySem.Spec PyProof.Rows L2
open Evl (Ex)
def cakeF (ds : List Int) (most : Int) (i : Nat) : Ck := (1 + ds.getD (1 + 2 * (i : Int)).toNat 0 % most, 1 + ds.getD (2 + 2 * (i : Int)).toNat 0 % most)
def ckF (ds : List Int) (most : Int) : Nat → List Ck × Int
  | 0 => ([], 0)
  | i + 1 => if (ckF ds most i).2 + (cakeF ds most i).1 * (cakeF ds most i).2 ≤ 144 then ((ckF ds most i).1 ++ [cakeF ds most i], (ckF ds most i).2 + (cakeF ds most i).1 * (cakeF ds most i).2) else ckF ds most i
theorem cakeF_ok {ds : List Int} {most : Int} (hm : most = 12 ∨ most = 4) (i : Nat) : OkK (cakeF ds most i) := by
  unfold OkK cakeF
  rcases hm with rfl | rfl <;> refine ⟨?_, ?_, ?_, ?_⟩ <;> (show _ ≤ _; omega)
theorem ckF_ok {ds : List Int} {most : Int} (hm : most = 12 ∨ most = 4) : ∀ i, (∀ c ∈ (ckF ds most i).1, OkK c) ∧ sqs (ckF ds most i).1 = (ckF ds most i).2 ∧ (ckF ds most i).2 ≤ 144 ∧ (ckF ds most i).1.length ≤ i
  | 0 => ⟨fun c m => absurd (show c ∈ ([] : List Ck) from m) (by simp), rfl, (show (0 : Int) ≤ 144 by decide), Nat.le_refl _⟩
  | i + 1 => by
    obtain ⟨h1, h2, h3, h4⟩ := ckF_ok hm i
    unfold ckF
    split
    · rename_i h
      refine ⟨fun c m => ?_, ?_, h, ?_⟩
      · rcases List.mem_append.mp m with m | m
        · exact h1 c m
        · rw [List.mem_singleton.mp m]; exact cakeF_ok hm i
      · show sqs ((ckF ds most i).1 ++ [cakeF ds most i]) = _
        rw [sqs_app, sqs_cons, h2]
        have z : sqs [] = 0 := rfl
        omega
      · show ((ckF ds most i).1 ++ [_]).length ≤ _
        rw [List.length_append, List.length_singleton]; omega
    · exact ⟨h1, h2, h3, by omega⟩
def mostF (ds : List Int) : Int := if ds.getD (29 : Int).toNat 0 % 3 = 0 then 12 else 4
def cakesF (c : Int) : List Ck := (ckF (dgF c 30) (mostF (dgF c 30)) ((dgF c 30).getD (0 : Int).toNat 0 % 15).toNat).1
theorem mostF_or (ds : List Int) : mostF ds = 12 ∨ mostF ds = 4 := by
  unfold mostF
  split
  · exact Or.inl rfl
  · exact Or.inr rfl
theorem cakesF_ok (c : Int) : OkC (cakesF c) := by
  obtain ⟨h1, h2, h3, h4⟩ := ckF_ok (ds := dgF c 30) (mostF_or (dgF c 30)) ((dgF c 30).getD (0 : Int).toNat 0 % 15).toNat
  exact ⟨h1, by unfold cakesF; rw [h2]; exact h3⟩
theorem cakesF_len (c : Int) : (cakesF c).length ≤ 14 := by
  obtain ⟨h1, h2, h3, h4⟩ := ckF_ok (ds := dgF c 30) (mostF_or (dgF c 30)) ((dgF c 30).getD (0 : Int).toNat 0 % 15).toNat
  unfold cakesF
  omega
theorem k_ifv {p : Prop} [Decidable p] {a b : Int} {σ : L2.St} {H : Hp} {Q : VK} (q : Q (.int (if p then a else b)) H) : if decide p = true then tC (.int a) σ H Q else tC (.int b) σ H Q := by
  by_cases h : p
  · rw [if_pos h] at q; rw [if_pos (decide_eq_true h)]; exact q
  · rw [if_neg h] at q; rw [if_neg (by simpa using h)]; exact q
end Mine
namespace Mine
open PySem PySem.Spec PyProof.Rows L2
open Evl (Ex)
def cutAt (s : Str) (c : Ck) (j : Nat) : Ck × Ck := if s = "left" then ((c.1, 1 + (j : Int)), (c.1, c.2 - (1 + (j : Int)))) else ((1 + (j : Int), c.2), (c.1 - (1 + (j : Int)), c.2))
theorem cutsC_at (s : Str) (c : Ck) : cutsC s c = (List.range ((if s = "left" then c.2 else c.1) - 1).toNat).map (cutAt s c) := by
  unfold cutsC
  by_cases z : s = "left"
  · rw [if_pos z, if_pos z]
    congr 1
    funext j
    unfold cutAt
    rw [if_pos z]
  · rw [if_neg z, if_neg z]
    congr 1
    funext j
    unfold cutAt
    rw [if_neg z]
theorem k_ifvar {p : Prop} [Decidable p] {i j : Nat} {a b : Int} {σ : L2.St} {H : Hp} {Q : VK} (hi : σ[i]? = some (some (.int a))) (hj : σ[j]? = some (some (.int b))) (q : Q (.int (if p then a else b)) H) : if decide p = true then tVar i σ H Q else tVar j σ H Q := by
  by_cases h : p
  · rw [if_pos h] at q; rw [if_pos (decide_eq_true h)]; exact k_var hi q
  · rw [if_neg h] at q; rw [if_neg (by simpa using h)]; exact k_var hj q
end Mine
namespace Mine
open PySem PySem.Spec PyProof.Rows L2
open Evl (Ex)
theorem sqs_rep : ∀ n : Nat, sqs (List.replicate n ((1, 1) : Ck)) = (n : Int)
  | 0 => rfl
  | n + 1 => by
    rw [List.replicate_succ, sqs_cons, sqs_rep n]
    show (1 : Int) * 1 + (n : Int) = _
    omega
theorem ok_rep {n : Nat} {c : Ck} (m : c ∈ List.replicate n ((1, 1) : Ck)) : OkK c := by
  rw [(List.mem_replicate.mp m).2]
  exact ⟨by decide, by decide, by decide, by decide⟩
theorem idx_mod {n : Nat} (h : 1 ≤ n) (c : Int) : ∃ k : Nat, c % (n : Int) = (k : Int) ∧ k < n := by
  have h1 := Int.emod_nonneg c (b := (n : Int)) (by omega)
  have h2 := Int.emod_lt_of_pos c (b := (n : Int)) (by omega)
  exact ⟨(c % (n : Int)).toNat, by omega, by omega⟩
end Mine
namespace Mine
open PySem PySem.Spec PyProof.Rows L2
open Evl (Ex)
theorem n_repA {K : PySem.W.Frag} {H : Hp} {Q : VK} {l : Addr} {k : Int} {xs : List V} (h : H l = some (.tup xs)) (ne : xs ≠ []) (k0 : 0 ≤ k) (k1 : k ≤ 1000) (x1 : xs.length ≤ 1000) (q : ∀ p H', Ex H H' → H' p = some (.tup (List.replicate k.toNat xs).flatten) → Q (.ref p) H') : rRepA K (.ref l) (.int k) H Q := by
  refine ⟨l, k, xs, rfl, rfl, k_st h, ne, k0, k1, x1, fun e => q l H (Evl.Ex.refl _) ?_, fun _ p np => q p _ (Evl.Ex.new np) upd_same⟩
  subst e
  rw [h]
  show some (HO.tup xs) = some (HO.tup (xs ++ []))
  rw [List.append_nil]
/-- the part of the dues that are parts -/
theorem due_parts {K : PySem.W.Frag} {σ : L2.St} {Q : VK} {H : Hp} {u : Addr} {xs : List V} {cs : List Ck} {i : Nat} (ht : H u = some (.tup xs)) (R : CsAt H xs cs) (l144 : cs.length ≤ 144)
    (w : ∀ x, wipe ((wipe σ [i]).set i (some x)) [i] = wipe σ [i]) (v : ∀ x, ((wipe σ [i]).set i (some x))[i]? = some (some x))
    (q : ∀ D ys H', H D = none → Ex H H' → H' D = some (.lst ys) → DsC H' ys (partsC cs) → Q (.ref D) H') :
    lcR (gName i) (tTest (tOp (rNeD K) (tVar i) (tTup (tCons (tC (.int 1)) (tCons (tC (.int 1)) tNil))))) (tTup (tCons (tC (.str "cakes")) (tCons (tTup (tCons (tVar i) tNil)) tNil))) [i] σ Q (Itt K u) H := by
  have xl := R.1
  intro D hD
  refine lc_tup (K := K) (a := u) (xs := xs) (fun j H' => ∃ ys, Ex H H' ∧ H' D = some (.lst ys) ∧ DsC H' ys (partsC (cs.take j))) ⟨[], Evl.Ex.new hD, upd_same, .nil⟩ (fun i H' _ ⟨_, e, _⟩ => k_st (e _ _ ht)) (fun j x H' hx p => ?_) (fun H' p => ?_)
  · obtain ⟨ys, e, hd, bs⟩ := p
    have hi := (List.getElem?_eq_some_iff.mp hx).1
    have gc := List.getElem?_eq_getElem (l := cs) (i := j) (by omega)
    obtain ⟨x', hx', ck⟩ := R.2 j _ gc
    rw [hx] at hx'
    injection hx' with hx'
    subst hx'
    have pt := parts_take gc
    generalize cs[j] = c at *
    have yl : ys.length ≤ j := by
      rw [bs.1]
      refine Nat.le_trans (parts_len _) ?_
      rw [List.length_take]; omega
    refine ⟨w _, ?_⟩
    rw [pt]
    refine k_test (k_op (k_var (v _) (k_tup (k_cons (k_c (k_cons (k_c (k_nil ?_))))))))
    refine ⟨fits (Nat.le_of_ble_eq_true rfl), fun p1 np1 => ?_⟩
    have e1 := Evl.Ex.new (o := HO.tup [V.int 1, V.int 1]) np1
    have s1 : upd H' p1 (HO.tup [V.int 1, V.int 1]) p1 = some (HO.tup [V.int 1, V.int 1]) := upd_same
    generalize upd H' p1 (HO.tup [V.int 1, V.int 1]) = H1 at *
    have hd1 := e1 _ _ hd
    have bs1 := bs.imp fun y c q => q.ex e1
    have ck1 := (ck.ex e).ex e1
    refine k_neCk (d := (1, 1)) ck1 ⟨p1, rfl, s1⟩ ⟨_, rfl, ?_⟩
    by_cases z : c = (1, 1)
    · rw [decide_eq_true z, if_pos z, List.append_nil, if_neg (show ¬ (!true) = true by decide)]
      exact ⟨ys, e.trans e1, hd1, bs1⟩
    · rw [decide_eq_false z, if_neg z]
      rw [if_pos (show (!false) = true from rfl)]
      refine k_tup (k_cons (k_c (k_cons (k_tup (k_cons (k_var (v _) (k_nil ?_)))))))
      refine ⟨fits (Nat.le_of_ble_eq_true rfl), fun p2 np2 => ?_⟩
      have e2 := Evl.Ex.new (o := HO.tup [x]) np2
      have s2 : upd H1 p2 (HO.tup [x]) p2 = some (HO.tup [x]) := upd_same
      generalize upd H1 p2 (HO.tup [x]) = H2 at *
      refine k_nil ?_
      refine ⟨fits (Nat.le_of_ble_eq_true rfl), fun p3 np3 => ?_⟩
      have e3 := Evl.Ex.new (o := HO.tup [V.str "cakes", V.ref p2]) np3
      have s3 : upd H2 p3 (HO.tup [V.str "cakes", V.ref p2]) p3 = some (HO.tup [V.str "cakes", V.ref p2]) := upd_same
      generalize upd H2 p3 (HO.tup [V.str "cakes", V.ref p2]) = H3 at *
      have e23 := e2.trans e3
      have hd3 := e23 _ _ hd1
      have bs3 := (bs1.imp fun y c q => q.ex e23).app (.one (P := DuC) (c := [c]) ⟨p3, p2, _, rfl, s3, e3 _ _ s2, .one (ck1.ex e23)⟩)
      refine ⟨ys, hd3, fits' (by omega), ys ++ [V.ref p3], Evl.Ex.mut ((e.trans e1).trans e23) hD, upd_same, ?_⟩
      exact bs3.imp fun y c q => q.keep (H' := upd H3 D (HO.lst (ys ++ [V.ref p3]))) fun c o q n => (upd_ne (fun e => n _ (by rw [e, hd3] at q; exact (Option.some.inj q).symm))).trans q
  · obtain ⟨ys, e, hd, bs⟩ := p
    rw [xl, List.take_of_length_le (Nat.le_refl _)] at bs
    exact q D ys H' hD e hd bs
end Mine
namespace Mine
open PySem PySem.Spec PyProof.Rows L2
open PySem.AutoSeq1
/-! enumerate(a text of signs below 128) -/
/-- a text of signs below 128 -/
def Asc7 (x : Str) : Prop := strIterType x = "str_ascii_iterator"
def IteS (x : Str) : It :=
  ⟨fun i H => i < x.cps.size, fun i H v H' => ∃ T c, v = .ref T ∧ H T = none ∧ H' = upd H T (.tup [.int (i : Nat), .str ⟨#[c]⟩]) ∧ x.cps[i]? = some c, fun i H => x.cps.size ≤ i⟩
theorem turn_enumS {P : Program} {w : World} {K : PySem.W.Frag} {elts : List Expr} {kk : Nat} {tpos : Pos} (x : Str) (t : Tok) (e it : Addr) :
    Turn P w K (.Tuple elts kk tpos) (IteS x) [e, it] e (fun i h => (∃ old, IsEnum h e it ((i : Nat) : Int) old) ∧ h.IsStrIter it "str_ascii_iterator" x t i ∧ e ≠ it ∧ i ≤ x.cps.size) where
  mem := by simp
  obj := fun i h st b hb => by
    obtain ⟨⟨old, he⟩, ⟨o, ho, hc, hd⟩, _⟩ := st
    rcases (show b = e ∨ b = it by simpa using hb) with z | z
    · rw [z]; exact ⟨_, he, fun v q => nomatch q⟩
    · rw [z]; exact ⟨o, ho, fun v q => by rw [hd] at q; cases q⟩
  keep := fun i h h' st k => let ⟨⟨old, he⟩, ⟨o, ho, hc, hd⟩, hne⟩ := st; ⟨⟨old, k e (by simp) _ he⟩, ⟨o, k it (by simp) o ho, hc, hd⟩, hne⟩
  item := by
    intro X hP hw hK hc i pins s σ H E I hf st hg
    subst hP hw hK
    obtain ⟨⟨old, he⟩, hit, hne, hle⟩ := st
    have hi : i < x.cps.size := hg
    have hel : e < s.heap.objs.size := Heap.lt_size he
    have hil : it < s.heap.objs.size := by obtain ⟨_, q, _⟩ := hit; exact Heap.lt_size q
    have D := Draws.strAscii (prog := X.prog) (w := X.w) (A := X.A.in1) (I.ok.hd hc) it x t
    refine wpAny_pyNext_enum_itemC D he hit hi hne (by simp [hne]) fun y h' tk hy ho st' hT hsz hk => ?_
    refine ⟨_, rfl, wpAny_letOwnedTupleGo_enum (s := { s with heap := h', toks := tk + 1 }) ho fun h'' he' sb => ?_⟩
    have hT2 : h''.get? s.heap.objs.size = some { cls := .type "tuple", data := .seq #[.int i tk, y] } := (sb.2 _ (Nat.ne_of_gt hel)).trans hT
    obtain ⟨c, u, hcx, ey⟩ := hy
    subst ey
    have new : ObjOk X.prog X.w (upd H s.heap.objs.size (.tup [.int (i : Nat), .str ⟨#[c]⟩])) h'' s.heap.objs.size (.tup [.int (i : Nat), .str ⟨#[c]⟩]) :=
      ⟨by show 2 ≤ sizeLine; decide, [.int i tk, .str ⟨#[c]⟩ u], .cons ⟨_, rfl⟩ (.cons ⟨_, rfl⟩ .nil), ⟨_, hT2, rfl, _, rfl⟩⟩
    have I1 : Inv X pins σ (upd H s.heap.objs.size (.tup [.int (i : Nat), .str ⟨#[c]⟩])) { s with heap := h'', toks := tk + 1 } :=
      I.turnedNew (ch := [e, it]) (fun b ob hb q => (sb.2 b (fun z => hb (by simp [z]))).trans (hk b ob (fun z => hb (by simp [z])) (fun z => hb (by simp [z])) q)) hf (Nat.le_refl _) new
    refine ⟨.ref s.heap.objs.size, _, I1, rfl, ⟨_, c, rfl, I.hok.fresh (Nat.le_refl _), rfl, hcx⟩, ⟨⟨.str ⟨#[c]⟩ u, ?_⟩, ?_, hne, hi⟩, fun b hb => ?_⟩
    · have e1 : ((i + 1 : Nat) : Int) = (i : Int) + 1 := by omega
      rw [e1]; exact he'
    · obtain ⟨o, ho2, hc2, hd2⟩ := st'
      exact ⟨o, (sb.2 it (Ne.symm hne)).trans ho2, hc2, hd2⟩
    · have hb' : b < s.heap.objs.size := by
        rcases (show b = e ∨ b = it by simpa using hb) with z | z
        · rw [z]; exact hel
        · rw [z]; exact hil
      rw [upd_ne (Nat.ne_of_lt hb')]
      exact (hf b hb).1
  done := by
    intro X hP hw hK hc i pins s σ H E I hf st hg
    subst hP hw hK
    obtain ⟨⟨old, he⟩, hit, hne, hle⟩ := st
    have hi : i = x.cps.size := Nat.le_antisymm hle hg
    subst hi
    obtain ⟨f0, f1, f2, f3, f4, f5⟩ := hf it (by simp)
    have D := Draws.strAscii (prog := X.prog) (w := X.w) (A := X.A.in1) (I.ok.hd hc) it x t
    exact wpAny_pyNext_enum_endD D he hit fun h' eb => ⟨rfl, I.turned (t' := s.toks) (fun b o hb q => eb b o hb q) f0 f1 f3 f4 f5⟩
  self := fun A i s Q E st h => let ⟨⟨_, he⟩, _⟩ := st; wpAny_pyIter_enum he h
def iEnumS (ta : TA) : TI := fun σ H R => ta σ H fun vs H1 => ∃ x, vs = [.str x] ∧ Asc7 x ∧ R (IteS x) H1
theorem pi_enumS {X : Cx} {e : Expr} {ta : TA} {p pos tpos : Pos} {elts : List Expr} {kk : Nat} (hg : Gl X "enumerate") (hm : X.mg "enumerate" = none) (ha : PA X [e] ta) (hs : starEach [e] X.env = [(false, eval e X.env)] := by rfl) :
    PI X (.Tuple elts kk tpos) (.Call (.Name "enumerate" p) [e] [] pos) (iEnumS ta) := by
  constructor
  intro pins s σ H R I h
  refine Call_ (ld_blt I hg hm boot_enumerate (PyProof.Rows.callWith_type1 (thn (ha.run pos pins s σ H _ I h) ?_) hs rfl))
  rintro us s1 ⟨vs, H1, I1, r1, x, rfl, hx, q⟩
  cases r1 with
  | cons r rr =>
    cases rr
    obtain ⟨t, rfl⟩ := r
    refine enum1_begins (begins_text x t) trivial fun h' he hit hk => wpAny_pyIter_enum he ?_
    have I2 : Inv X pins σ H1 { s1 with heap := h' } := I1.kept (t' := s1.toks) hk
    refine ⟨s1.heap.objs.size + 1, [s1.heap.objs.size + 1, s1.heap.objs.size], _, _, H1, rfl, I2, turn_enumS x t (s1.heap.objs.size + 1) s1.heap.objs.size, ⟨⟨.none, he⟩, ⟨_, hit, by rw [← hx], rfl⟩, Nat.succ_ne_self _, Nat.zero_le _⟩, fun b hb => ?_, q⟩
    have hle : s1.heap.objs.size ≤ b := by
      rcases (show b = s1.heap.objs.size + 1 ∨ b = s1.heap.objs.size by simpa using hb) with z | z
      · rw [z]; exact Nat.le_add_right _ _
      · rw [z]; exact Nat.le_refl _
    exact I1.fpOk hle (I1.hok.fresh hle)
theorem for_enumS {g : TG} {tb : TS} {D : Ends} {σ : L2.St} {H : Hp} {x : Str} (Pv : Nat → L2.St → Hp → Prop) (h0 : Pv 0 σ H)
    (hs : ∀ i c σ' H' T, x.cps[i]? = some c → Pv i σ' H' → H' T = none → g (.ref T) σ' (upd H' T (.tup [.int (i : Nat), .str ⟨#[c]⟩])) fun σ2 H2 => tb { D with nx := Pv (i + 1), ct := Pv (i + 1), bk := D.nx } σ2 H2) (hd : ∀ σ' H', Pv x.cps.size σ' H' → D.nx σ' H') : forK g tb D σ (IteS x) H := by
  refine ⟨fun i m σ H => i ≤ x.cps.size ∧ m = x.cps.size - i ∧ Pv i σ H, ⟨x.cps.size, Nat.zero_le _, by omega, h0⟩, ?_⟩
  rintro i m σ H ⟨hi, rfl, p⟩
  rcases Nat.lt_or_ge i x.cps.size with h | h
  · refine Or.inr ⟨h, Pv (i + 1), fun σ' H' p' => ⟨x.cps.size - (i + 1), by omega, h, rfl, p'⟩, ?_⟩
    rintro v H' ⟨T, c, rfl, hT, rfl, hx⟩
    exact hs i c σ H T hx p hT
  · have e : i = x.cps.size := by omega
    subst e
    exact Or.inl ⟨Nat.le_refl _, hd σ H p⟩
end Mine
namespace Mine
open PySem PySem.Spec PyProof.Rows L2
/-! list(a text) -/
def sign (c : Nat) : V := .str ⟨#[c]⟩
def rListS : List V → Hp → VK → Prop := fun xs H Q => ∃ x : Str, xs = [.str x] ∧ x.cps.size ≤ 1000 ∧ ∀ l, H l = none → Q (.ref l) (upd H l (.lst (x.cps.toList.map sign)))
theorem signs_vals {x : Str} {acc : Array Value} (h : ItemsOf (SignAt x) acc x.cps.size) : Vals (x.cps.toList.map sign) acc.toList := by
  obtain ⟨hs, hi⟩ := h
  have gen : ∀ (cs : List Nat) (us : List Value), cs.length = us.length → (∀ (j : Nat) (v : Value), us[j]? = some v → ∃ c u, cs[j]? = some c ∧ v = Value.str ⟨#[c]⟩ u) → Vals (cs.map sign) us := by
    intro cs
    induction cs with
    | nil =>
      intro us l _
      cases us with
      | nil => exact .nil
      | cons u us => cases l
    | cons c cs ih =>
      intro us l h
      cases us with
      | nil => cases l
      | cons u us =>
        obtain ⟨c', t, hc, hv⟩ := h 0 u rfl
        cases hc
        refine .cons ⟨t, hv⟩ (ih us (by simpa using l) fun j v hj => ?_)
        exact h (j + 1) v hj
  refine gen _ _ (by simp [hs]) fun j v hj => ?_
  obtain ⟨c, u, h1, h2⟩ := hi j v (by simpa using hj)
  exact ⟨c, u, by simpa using h1, h2⟩
theorem cr_listS {X : Cx} (hc : X.calm = true) : CallR X (.type "list") rListS := by
  rintro pins s σ H xs us Q I rv ⟨x, rfl, l1, q⟩
  cases rv with
  | cons r rr =>
    cases rr
    obtain ⟨t, rfl⟩ := r
    refine callType_codes F.called_list (F.typeCall_list_1 _) F.entry_list_init (Q₁ := fun obj s1 => obj = .ref s.heap.objs.size ∧ s1 = { s with heap := s.heap.push { cls := .type "list", data := .seq #[] } }) (code_list_new _ ⟨rfl, rfl⟩) ?_
    rintro obj s1 ⟨rfl, rfl⟩
    have new := Heap.get?_push_size s.heap (o := { cls := .type "list", data := .seq #[] }) rfl
    refine ⟨⟨_, new, rfl⟩, F.args_list_init_2 _ _, ?_⟩
    refine wpAny_list_init_str (A := X.A.in1) (s := { s with heap := s.heap.push { cls := .type "list", data := .seq #[] } }) (I.ok.hd hc) x t s.heap.objs.size new (fun h' tk acc c' hk hl items => ?_) (Nat.le_trans l1 (by decide))
    refine ⟨rfl, .ref _, upd H s.heap.objs.size (.lst (x.cps.toList.map sign)), ?_, rfl, q _ (I.hok.fresh (Nat.le_refl _))⟩
    refine I.laid (t' := tk) (fun b u hb => hk b u (fun e => by have h := Heap.lt_size hb; rw [e] at h; exact Nat.lt_irrefl _ h) (Heap.get?_push_of_some _ hb)) (Nat.le_refl _) ?_
    exact ⟨by rw [List.length_map]; exact Nat.le_trans (show x.cps.toList.length ≤ 1000 by simpa using l1) (by decide), acc.toList, c', signs_vals items, by simpa using hl⟩
end Mine
namespace Mine
open PySem PySem.Spec PyProof.Rows L2
/-- sep.join(a list of texts) -/
def rJoinS (K : PySem.W.Frag) : V → List V → Hp → VK → Prop := fun x xs H Q => ∃ a p, ∃ ys : List Str, x = .str a ∧ xs = [.ref p] ∧ (SqL K H p (ys.map V.str) ∨ SqT K H p (ys.map V.str)) ∧ (ys.map (·.length)).sum + ys.length * a.length ≤ 16777216 ∧ Q (.str (Txt.join a ys)) H
theorem mt_joinS {X : Cx} : MtR X "str.join" (rJoinS X.K) := mt_join
/-- the text of these signs -/
def tx (l : List Nat) : Str := ⟨l.toArray⟩
theorem tx_len (l : List Nat) : (tx l).length = l.length := by
  show l.toArray.size = _
  simp
theorem tx_cps (l : List Nat) : (tx l).cps.toList = l := by
  show l.toArray.toList = _
  simp
theorem tx_size (l : List Nat) : (tx l).cps.size = l.length := by
  show l.toArray.size = _
  simp
theorem tx_cat (a b : List Nat) : tx a ++ tx b = tx (a ++ b) := by
  show (⟨a.toArray ++ b.toArray⟩ : Str) = ⟨(a ++ b).toArray⟩
  rw [List.append_toArray]
theorem tx_inj {a b : List Nat} : tx a = tx b ↔ a = b := by
  constructor
  · intro h
    have := congrArg (fun z : Str => z.cps.toList) h
    simpa [tx] using this
  · intro h; rw [h]
theorem tx_cut (l : List Nat) (lo hi : Option Int) : cutS (tx l) lo hi = tx ((l.drop (HT.sIx l.length 0 lo)).take (HT.sIx l.length l.length hi - HT.sIx l.length 0 lo)) := by
  unfold cutS
  rw [tx_len, tx_cps]
  rfl
theorem tx_join (l : List Nat) : Txt.join (tx []) (l.map fun c => tx [c]) = tx l := by
  have gen : ∀ (cs : List Nat) (a : Array Nat), List.foldl (fun (acc : Array Nat) (p : Str) => acc ++ (tx []).cps ++ p.cps) a (cs.map fun c => tx [c]) = a ++ cs.toArray := by
    intro cs
    induction cs with
    | nil => intro a; simp
    | cons c cs ih =>
      intro a
      rw [List.map_cons, List.foldl_cons, ih]
      simp [tx]
  unfold Txt.join Builtin.Str.glued
  cases l with
  | nil => rfl
  | cons c cs =>
    show (⟨List.foldl (fun (acc : Array Nat) (p : Str) => acc ++ (tx []).cps ++ p.cps) (tx [c]).cps (cs.map fun c => tx [c])⟩ : Str) = _
    rw [gen]
    simp [tx]
end Mine
namespace Mine
open PySem PySem.Spec PyProof.Rows L2
open Evl (Ex)
/-! rows of toads and frogs: T is 84, F is 70, a free place is 46 -/
structure FFrogs (K : PySem.W.Frag) : Prop where
  cl : Cls K (He.ga K "Frogs")
  na : NoAttr K (He.ga K "Frogs") "_line"
structure FSIGNS (K : PySem.W.Frag) : Prop where
  tu : ∀ H, SqT K H (He.ga K "SIGNS") [.str "T", .str "F", .str "."]
structure FMOVERS (K : PySem.W.Frag) : Prop where
  l : PySem.W.nsIn K (He.ga K "MOVERS") "left" = some (some (.ref (kdA K "MOVERS" "left"))) ∧ ∀ H, SqT K H (kdA K "MOVERS" "left") [.str "T", .str "F", .int 1]
  r : PySem.W.nsIn K (He.ga K "MOVERS") "right" = some (some (.ref (kdA K "MOVERS" "right"))) ∧ ∀ H, SqT K H (kdA K "MOVERS" "right") [.str "F", .str "T", .int (-1)]
def gfs (l : Str) : List (Str × V) := putF "_line" (.str l) []
theorem gfs_get (l : Str) : (gfs l).lookup ("_line" : Str) = some (.str l) := by
  unfold gfs
  rw [lookup_putF, if_pos rfl]
theorem gfs_no (l : Str) {m : Str} (h : ¬ m = "_line") : (gfs l).lookup m = none := by
  unfold gfs
  rw [lookup_putF, if_neg h]
  rfl
theorem s_T : ("T" : Str) = tx [84] := rfl
theorem s_F : ("F" : Str) = tx [70] := rfl
theorem s_dot : ("." : Str) = tx [46] := rfl
def OkL (l : List Nat) : Prop := l.length ≤ 12 ∧ ∀ c ∈ l, c = 84 ∨ c = 70 ∨ c = 46
theorem OkL.asc {l : List Nat} (h : OkL l) : Asc7 (tx l) := by
  unfold Asc7 strIterType tx
  rw [if_pos]
  rw [List.all_toArray, List.all_eq_true]
  intro c m
  rcases h.2 c m with rfl | rfl | rfl <;> rfl
/-- a board -/
def FgAt (K : PySem.W.Frag) (H : Hp) (b : Addr) (l : List Nat) : Prop := ∃ dx, H b = some (.ins (He.ga K "Frogs") dx (gfs (tx l)))
theorem FgAt.keep {K : PySem.W.Frag} {H H' : Hp} {b : Addr} {l : List Nat} (h : FgAt K H b l) (k : ∀ c o, H c = some o → (∀ ys, o ≠ .lst ys) → H' c = some o) : FgAt K H' b l := let ⟨dx, h1⟩ := h; ⟨dx, k _ _ h1 (fun ys z => by cases z)⟩
theorem FgAt.ex {K : PySem.W.Frag} {H H' : Hp} {b : Addr} {l : List Nat} (h : FgAt K H b l) (e : Ex H H') : FgAt K H' b l := h.keep fun c o z _ => e c o z
def FgV (K : PySem.W.Frag) (H : Hp) (y : V) (l : List Nat) : Prop := ∃ b, y = .ref b ∧ FgAt K H b l
theorem FgV.keep {K : PySem.W.Frag} {H H' : Hp} {y : V} {l : List Nat} (h : FgV K H y l) (k : ∀ c o, H c = some o → (∀ ys, o ≠ .lst ys) → H' c = some o) : FgV K H' y l := let ⟨b, r, z⟩ := h; ⟨b, r, z.keep k⟩
theorem FgV.ex {K : PySem.W.Frag} {H H' : Hp} {y : V} {l : List Nat} (h : FgV K H y l) (e : Ex H H') : FgV K H' y l := h.keep fun c o z _ => e c o z
def DuF (H : Hp) (y : V) (l : List Nat) : Prop := ∃ d, y = .ref d ∧ H d = some (.tup [.str "frogs", .str (tx l)])
theorem DuF.keep {H H' : Hp} {y : V} {l : List Nat} (h : DuF H y l) (k : ∀ c o, H c = some o → (∀ ys, o ≠ .lst ys) → H' c = some o) : DuF H' y l := let ⟨d, r, z⟩ := h; ⟨d, r, k _ _ z (fun ys z => by cases z)⟩
theorem DuF.ex {H H' : Hp} {y : V} {l : List Nat} (h : DuF H y l) (e : Ex H H') : DuF H' y l := h.keep fun c o z _ => e c o z
abbrev BsF (K : PySem.W.Frag) (H : Hp) (ys : List V) (ls : List (List Nat)) : Prop := AllAt (FgV K) H ys ls
abbrev DsF (H : Hp) (ys : List V) (ls : List (List Nat)) : Prop := AllAt DuF H ys ls
/-! moves -/
def atL (l : List Nat) (i : Int) : Option Nat := if 0 ≤ i then l[i.toNat]? else none
theorem atL_nat (l : List Nat) (i : Nat) : atL l (i : Int) = l[i]? := by
  unfold atL
  rw [if_pos (by omega), Int.toNat_natCast]
def ownF (s : Str) : Nat := if s = "left" then 84 else 70
def jumF (s : Str) : Nat := if s = "left" then 70 else 84
def stpF (s : Str) : Int := if s = "left" then 1 else -1
def tgt (s : Str) (l : List Nat) (p : Nat) : Option Int := if atL l (p + stpF s) = some 46 then some (p + stpF s) else if atL l (p + stpF s) = some (jumF s) ∧ atL l (p + 2 * stpF s) = some 46 then some (p + 2 * stpF s) else none
def mvL (s : Str) (l : List Nat) (p : Nat) (q : Int) : List Nat := (l.set p 46).set q.toNat (ownF s)
def mvAtF (s : Str) (l : List Nat) (p : Nat) : List (List Nat) := if l[p]? = some (ownF s) then (tgt s l p).toList.map (mvL s l p) else []
def mvsF (s : Str) (l : List Nat) : List (List Nat) := (List.range l.length).flatMap (mvAtF s l)
theorem tgt_in {s : Str} {l : List Nat} {p : Nat} {q : Int} (h : tgt s l p = some q) : 0 ≤ q ∧ q < l.length ∧ atL l q = some 46 := by
  have key : ∀ i : Int, atL l i = some 46 → 0 ≤ i ∧ i < l.length ∧ atL l i = some 46 := by
    intro i hi
    have hi0 := hi
    unfold atL at hi
    split at hi
    · have := (List.getElem?_eq_some_iff.mp hi).1
      exact ⟨by omega, by omega, hi0⟩
    · cases hi
  unfold tgt at h
  split at h
  · rename_i h1
    cases h
    exact key _ h1
  · split at h
    · rename_i h1
      cases h
      exact key _ h1.2
    · cases h
theorem mvAt_len (s : Str) (l : List Nat) (p : Nat) : (mvAtF s l p).length ≤ 1 := by
  unfold mvAtF
  split
  · rw [List.length_map]
    cases tgt s l p <;> simp
  · simp
theorem mvsF_len (s : Str) (l : List Nat) (n : Nat) : ((List.range n).flatMap (mvAtF s l)).length ≤ n := by
  induction n with
  | zero => exact Nat.le_refl _
  | succ n ih =>
    rw [List.range_succ, List.flatMap_append, List.length_append, List.flatMap_cons, List.flatMap_nil, List.append_nil]
    have := mvAt_len s l n
    omega
theorem mvL_ok {s : Str} {l : List Nat} (ok : OkL l) (p : Nat) (q : Int) : OkL (mvL s l p q) := by
  refine ⟨by unfold mvL; rw [List.length_set, List.length_set]; exact ok.1, fun c m => ?_⟩
  unfold mvL at m
  rcases List.mem_or_eq_of_mem_set m with m | rfl
  · rcases List.mem_or_eq_of_mem_set m with m | rfl
    · exact ok.2 c m
    · exact Or.inr (Or.inr rfl)
  · unfold ownF
    split
    · exact Or.inl rfl
    · exact Or.inr (Or.inl rfl)
end Mine
namespace Mine
open PySem PySem.Spec PyProof.Rows L2
/-! each move takes something away -/
def phi : List Nat → Nat
  | [] => 0
  | c :: l => (if c = 84 then l.count 46 + l.count 70 else if c = 46 then l.count 70 else 0) + phi l
def cross (a b : List Nat) : Nat := a.count 84 * (b.count 46 + b.count 70) + a.count 46 * b.count 70
theorem phi_app (a b : List Nat) : phi (a ++ b) = phi a + cross a b + phi b := by
  induction a with
  | nil => simp [phi, cross]
  | cons c a ih =>
    show (if c = 84 then (a ++ b).count 46 + (a ++ b).count 70 else if c = 46 then (a ++ b).count 70 else 0) + phi (a ++ b) = (if c = 84 then a.count 46 + a.count 70 else if c = 46 then a.count 70 else 0) + phi a + cross (c :: a) b + phi b
    rw [ih, List.count_append, List.count_append]
    unfold cross
    by_cases h1 : c = 84
    · subst h1
      rw [if_pos rfl, if_pos rfl, List.count_cons_self, List.count_cons_of_ne (by decide), Nat.add_mul]
      omega
    · by_cases h2 : c = 46
      · subst h2
        rw [if_neg (by decide), if_pos rfl, if_neg (by decide), if_pos rfl, List.count_cons_of_ne (by decide), List.count_cons_self, Nat.add_mul]
        omega
      · rw [if_neg h1, if_neg h2, if_neg h1, if_neg h2, List.count_cons_of_ne h1, List.count_cons_of_ne h2]
        omega
theorem phi_mid {A B m m' : List Nat} (h1 : m.count 84 = m'.count 84) (h2 : m.count 46 = m'.count 46) (h3 : m.count 70 = m'.count 70) (h : phi m' + 1 ≤ phi m) : phi (A ++ m' ++ B) + 1 ≤ phi (A ++ m ++ B) := by
  rw [phi_app, phi_app, phi_app, phi_app]
  unfold cross
  rw [List.count_append, List.count_append, List.count_append, List.count_append, h1, h2, h3]
  omega
theorem phiF_le : ∀ l : List Nat, phi l ≤ l.count 84 * l.count 46 + l.count 84 * l.count 70 + l.count 46 * l.count 70
  | [] => by simp [phi]
  | c :: l => by
    have ih := phiF_le l
    show (if c = 84 then l.count 46 + l.count 70 else if c = 46 then l.count 70 else 0) + phi l ≤ _
    by_cases h1 : c = 84
    · subst h1
      rw [if_pos rfl, List.count_cons_self, List.count_cons_of_ne (by decide), List.count_cons_of_ne (by decide), Nat.add_mul, Nat.add_mul]
      omega
    · by_cases h2 : c = 46
      · subst h2
        rw [if_neg (by decide), if_pos rfl, List.count_cons_of_ne (by decide), List.count_cons_self, List.count_cons_of_ne (by decide), Nat.add_mul, Nat.mul_add]
        omega
      · rw [if_neg h1, if_neg h2, List.count_cons_of_ne h1, List.count_cons_of_ne h2]
        by_cases h3 : c = 70
        · subst h3
          rw [List.count_cons_self, Nat.mul_add, Nat.mul_add]
          omega
        · rw [List.count_cons_of_ne h3]
          omega
theorem counts_le : ∀ l : List Nat, l.count 84 + l.count 46 + l.count 70 ≤ l.length
  | [] => by simp
  | c :: l => by
    have ih := counts_le l
    rw [List.length_cons]
    by_cases h1 : c = 84
    · subst h1
      rw [List.count_cons_self, List.count_cons_of_ne (by decide), List.count_cons_of_ne (by decide)]; omega
    · by_cases h2 : c = 46
      · subst h2
        rw [List.count_cons_of_ne (by decide), List.count_cons_self, List.count_cons_of_ne (by decide)]; omega
      · by_cases h3 : c = 70
        · subst h3
          rw [List.count_cons_of_ne (by decide), List.count_cons_of_ne (by decide), List.count_cons_self]; omega
        · rw [List.count_cons_of_ne h1, List.count_cons_of_ne h2, List.count_cons_of_ne h3]; omega
theorem three_le : ∀ a, a ≤ 12 → ∀ b, b ≤ 12 → ∀ c, c ≤ 12 → a + b + c ≤ 12 → a * b + a * c + b * c ≤ 48 := by
  decide +kernel
theorem phi_48 {l : List Nat} (h : l.length ≤ 12) : phi l ≤ 48 := by
  have h1 := phiF_le l
  have h2 := counts_le l
  exact Nat.le_trans h1 (three_le _ (by omega) _ (by omega) _ (by omega) (by omega))
theorem split2 {l : List Nat} {p x y : Nat} (h1 : l[p]? = some x) (h2 : l[p + 1]? = some y) : l = l.take p ++ [x, y] ++ l.drop (p + 2) := by
  have l2 := (List.getElem?_eq_some_iff.mp h2).1
  have a1 := (List.getElem?_eq_some_iff.mp h1).2
  have a2 := (List.getElem?_eq_some_iff.mp h2).2
  have e1 : l.drop p = x :: l.drop (p + 1) := by rw [List.drop_eq_getElem_cons (by omega), a1]
  have e2 : l.drop (p + 1) = y :: l.drop (p + 2) := by rw [List.drop_eq_getElem_cons (by omega), a2]
  rw [List.append_assoc]
  show l = l.take p ++ (x :: y :: l.drop (p + 2))
  rw [← e2, ← e1, List.take_append_drop]
theorem split3 {l : List Nat} {p x y z : Nat} (h1 : l[p]? = some x) (h2 : l[p + 1]? = some y) (h3 : l[p + 2]? = some z) : l = l.take p ++ [x, y, z] ++ l.drop (p + 3) := by
  have l3 := (List.getElem?_eq_some_iff.mp h3).1
  have a3 := (List.getElem?_eq_some_iff.mp h3).2
  have e3 : l.drop (p + 2) = z :: l.drop (p + 3) := by rw [List.drop_eq_getElem_cons (by omega), a3]
  have e := split2 h1 h2
  rw [List.append_assoc] at e ⊢
  show l = l.take p ++ (x :: y :: z :: l.drop (p + 3))
  rw [← e3]
  exact e
theorem set_in {A B m : List Nat} {i v : Nat} (h : i < m.length) : (A ++ m ++ B).set (A.length + i) v = A ++ m.set i v ++ B := by
  rw [List.append_assoc, List.set_append_right _ _ (by omega), Nat.add_sub_cancel_left, List.set_append_left _ _ h, ← List.append_assoc]
end Mine
namespace Mine
open PySem PySem.Spec PyProof.Rows L2
theorem atL_some {l : List Nat} {i : Int} {c : Nat} (h : atL l i = some c) : ∃ n : Nat, i = (n : Int) ∧ l[n]? = some c := by
  unfold atL at h
  split at h
  · exact ⟨i.toNat, by omega, h⟩
  · cases h
theorem set2 {A B : List Nat} {x y v w : Nat} {p q i j : Nat} {m : List Nat} (hp : p = A.length + i) (hq : q = A.length + j) (hi : i < m.length) (hj : j < m.length) : ((A ++ m ++ B).set p v).set q w = A ++ (m.set i v).set j w ++ B := by
  subst hp hq
  rw [set_in hi, set_in (by rw [List.length_set]; exact hj)]
theorem phi_mv {s : Str} {l : List Nat} {p : Nat} {q : Int} (hp : l[p]? = some (ownF s)) (h : tgt s l p = some q) : phi (mvL s l p q) + 1 ≤ phi l := by
  have lp := (List.getElem?_eq_some_iff.mp hp).1
  unfold tgt at h
  unfold mvL
  by_cases z : s = "left"
  · have o : ownF s = 84 := by unfold ownF; rw [if_pos z]
    have u : jumF s = 70 := by unfold jumF; rw [if_pos z]
    have t : stpF s = 1 := by unfold stpF; rw [if_pos z]
    rw [o] at hp ⊢
    rw [u, t] at h
    split at h
    · rename_i h1
      cases h
      obtain ⟨n, en, hn⟩ := atL_some h1
      have e : n = p + 1 := by omega
      subst e
      have tl : (l.take p).length = p := by rw [List.length_take]; omega
      have sp := split2 hp hn
      generalize l.take p = A at *
      generalize l.drop (p + 2) = B at *
      subst sp
      rw [set2 (x := 0) (y := 0) (i := 0) (j := 1) (by omega) (by omega) (by decide) (by decide)]
      exact phi_mid (by decide) (by decide) (by decide) (by decide)
    · split at h
      · rename_i h2
        obtain ⟨h1, h2⟩ := h2
        cases h
        obtain ⟨n, en, hn⟩ := atL_some h1
        obtain ⟨n2, en2, hn2⟩ := atL_some h2
        have e : n = p + 1 := by omega
        have e2 : n2 = p + 2 := by omega
        subst e e2
        have tl : (l.take p).length = p := by rw [List.length_take]; omega
        have sp := split3 hp hn hn2
        generalize l.take p = A at *
        generalize l.drop (p + 3) = B at *
        subst sp
        rw [set2 (x := 0) (y := 0) (i := 0) (j := 2) (by omega) (by omega) (by decide) (by decide)]
        exact phi_mid (by decide) (by decide) (by decide) (by decide)
      · cases h
  · have o : ownF s = 70 := by unfold ownF; rw [if_neg z]
    have u : jumF s = 84 := by unfold jumF; rw [if_neg z]
    have t : stpF s = -1 := by unfold stpF; rw [if_neg z]
    rw [o] at hp ⊢
    rw [u, t] at h
    split at h
    · rename_i h1
      cases h
      obtain ⟨n, en, hn⟩ := atL_some h1
      have e : p = n + 1 := by omega
      subst e
      have tl : (l.take n).length = n := by rw [List.length_take]; omega
      have sp := split2 hn hp
      generalize l.take n = A at *
      generalize l.drop (n + 2) = B at *
      subst sp
      rw [set2 (x := 0) (y := 0) (i := 1) (j := 0) (by omega) (by omega) (by decide) (by decide)]
      exact phi_mid (by decide) (by decide) (by decide) (by decide)
    · split at h
      · rename_i h2
        obtain ⟨h1, h2⟩ := h2
        cases h
        obtain ⟨n, en, hn⟩ := atL_some h1
        obtain ⟨n2, en2, hn2⟩ := atL_some h2
        have e : p = n2 + 2 := by omega
        have e2 : n = n2 + 1 := by omega
        subst e e2
        have tl : (l.take n2).length = n2 := by rw [List.length_take]; omega
        have sp := split3 hn2 hn hp
        generalize l.take n2 = A at *
        generalize l.drop (n2 + 3) = B at *
        subst sp
        rw [set2 (x := 0) (y := 0) (i := 2) (j := 0) (by omega) (by omega) (by decide) (by decide)]
        exact phi_mid (by decide) (by decide) (by decide) (by decide)
      · cases h
theorem mvsF_phi {s : Str} {l : List Nat} : ∀ m ∈ mvsF s l, phi m + 1 ≤ phi l := by
  intro m h
  obtain ⟨p, _, h⟩ := List.mem_flatMap.mp h
  unfold mvAtF at h
  split at h
  · rename_i hp
    obtain ⟨q, hq, rfl⟩ := List.mem_map.mp h
    rw [Option.mem_toList] at hq
    exact phi_mv hp hq
  · cases h
theorem mvsF_ok {s : Str} {l : List Nat} (ok : OkL l) : ∀ m ∈ mvsF s l, OkL m := by
  intro m h
  obtain ⟨p, _, h⟩ := List.mem_flatMap.mp h
  unfold mvAtF at h
  split at h
  · obtain ⟨q, hq, rfl⟩ := List.mem_map.mp h
    exact mvL_ok ok p q
  · cases h
end Mine
namespace Mine
open PySem PySem.Spec PyProof.Rows L2
open Sem (wp)
/-! {x}: a set of one int -/
def tSet1 (w : World) (te : TE) : TE := fun σ H Q => ∀ p, H p = none → te σ (upd H p (SetO w p (fun _ => false) 0)) fun v H1 => ∃ k : Int, v = V.int k ∧ H1 p = some (SetO w p (fun _ => false) 0) ∧ Q (.ref p) (upd H1 p (SetO w p (fun j => decide (j = k)) 1))
theorem code_kds {K : PySem.W.Frag} {cd : Value} {q : Str} (h : PySem.W.codeIn K cd q = true) : PySem.W.kdsCode K cd = true := by
  unfold PySem.W.codeIn at h
  unfold PySem.W.kdsCode
  split at h
  · split at h
    · rename_i e
      dsimp only
      rw [e]
    · cases h
  · cases h
theorem pe_set1 {X : Cx} {e : Expr} {te : TE} {pos : Pos} (hc : PySem.W.kdsCode X.K X.env.code = true) (he : PE X e te) (hs : starEach [e] X.env = [(false, eval e X.env)] := by rfl) : PE X (.Set [e] 0 pos) (tSet1 X.w te) := by
  refine ⟨fun pins s σ H Q I h => ?_⟩
  rw [arm_eval_Set]
  refine wpAny_bind (wpAny_standAt ?_)
  refine wpAny_bind (PySem.W.kds_main (I.kIn) hc fun b => ?_)
  rw [hs]
  unfold setDisplay
  dsimp only
  have road : (displayRoad 0 [e] == DisplayRoad.constants) = false := rfl
  rw [road, if_neg (by decide)]
  refine wpAny_bind (wpAny_newSet_raw fun led hl => ?_)
  subst hl
  have hn := I.hok.fresh (Nat.le_refl s.heap.objs.size)
  have R0 := setR_fresh (h := s.heap) X.w
  have I1 := I.laid (a := s.heap.objs.size) (o := SetO X.w s.heap.objs.size (fun _ => false) 0) (t' := s.toks) (fun _ _ q => Heap.get?_push_of_some _ q) (Nat.le_refl _) (setO_new R0)
  refine wpAny_bind (wpAny_holding ?_)
  refine wpAny_bind (m := evalAll [(do let v ← eval e X.env; standAt pos; pure v)]) ?_
  refine wpAny_mono (PySem.W.kds_all (env := X.env) pos [e] _ (fun vs s' => ∃ (k : Int) (tk : Tok) (H1 : Hp), vs = [Value.int k tk] ∧ Inv X pins σ H1 s' ∧ H1 s.heap.objs.size = some (SetO X.w s.heap.objs.size (fun _ => false) 0) ∧ Q (.ref s.heap.objs.size) (upd H1 s.heap.objs.size (SetO X.w s.heap.objs.size (fun j => decide (j = k)) 1))) ?_) (fun vs s' h' => ?_) fun _ _ x => x
  · refine thn (he.run pins _ σ _ _ I1 (h _ hn)) fun u s1 z => ?_
    obtain ⟨v, H1, I2, rv, k, rfl, hp, q⟩ := z
    obtain ⟨tk, rfl⟩ := rv
    exact ⟨k, tk, H1, rfl, I2, hp, q⟩
  · obtain ⟨k, tk, H1, rfl, I2, hp, q⟩ := h'
    refine wpAny_bind (wpAny_holding ?_)
    refine wpAny_bind ?_
    rw [List.forIn_cons]
    refine wpAny_bind (wpAny_bind ?_)
    unfold setAdd
    refine wpAny_holding ?_
    refine wpAny_bind ((intKind X.prog X.w).pyHash (k := k) (intKind_is _ _ _ _) ?_)
    refine setR_add_hashed (s := { s' with toks := s'.toks + 1 }) (show SetR X.w s'.heap s.heap.objs.size (fun _ => false) 0 from setO_get I2 hp) (by decide) fun h' sb R => ?_
    refine wpAny_pure ?_
    dsimp only
    rw [List.forIn_nil]
    refine wpAny_pure ?_
    have road2 : (displayRoad 0 [e] == DisplayRoad.unsure) = false := rfl
    rw [road2, if_neg (by decide)]
    refine wpAny_pure ?_
    show wpAny _ _ (forIn [] _ _ >>= _) _ _ _
    rw [List.forIn_nil]
    refine wpAny_pure (wpAny_pure ?_)
    have hex : ∃ u, h'.get? s.heap.objs.size = some u := by
      have ⟨o, _, _, _, ho, _⟩ := R
      exact ⟨o, ho⟩
    have R2 : SetR X.w h' s.heap.objs.size (fun j => decide (j = k)) 1 := R.congr fun j => by simp
    exact ⟨.ref s.heap.objs.size, _, I2.write (x := s.heap.objs.size) (e := s.heap.objs.size) (t' := s'.toks + 1) (by rw [hp]; exact True.intro) (.inl rfl) (fun b u hb y => (sb.2 b hb).trans y) hex (setO_new R2), rfl, q⟩
/-- a def whose body asks for its own code -/
theorem okC {P : Program} {w : World} {K : PySem.W.Frag} {mg : Str → Option Value} {base : Heap} {x qual : Str} {params : Arguments} {body : List Stmt} {scope : Scope} {dvs : List V} {kws : List (Str × V)} {f : Addr} {fd : FuncData} {CX : CXT} {N ps : List Str} {k : Nat} {sp : Sp}
    (F : FunD K x qual params body scope dvs kws f fd) (S : FnScope N ps scope) (len : ∀ vs H Q E, sp vs H Q E → vs.length = ps.length)
    (hbody : ∀ (cdv : Value), PySem.W.kdsCode K cdv = true → ∀ (A : Around) (outer : List Env) (s : Shared) (H : Hp) (vs : List V) (Q : VK) (E : XK), Room k (A.deeper (envOfC qual scope s.heap.objs.size f cdv)) → sp vs H Q E →
      ∃ t, PSs (cxOf CX P w K mg base N qual scope f cdv A outer s H E) body t ∧ t { nx := fun _ H' => Q .non H', rt := Q } (start N vs) H) : FnOk P w K mg base CX (k + 1) f fd ps sp := by
  obtain ⟨_, _, _, _, _, _, _, cdv, _, _, rfl, lk, hcd, _⟩ := F.ex
  exact fn_of lk hcd S len fun A outer s H vs Q E hr hsp => hbody cdv (code_kds hcd) A outer s H vs Q E hr hsp
end Mine
namespace Mine
open PySem PySem.Spec PyProof.Rows L2
open Evl (Ex)
section
variable {H : Hp} {Q : VK} {K : PySem.W.Frag} {w : World} {σ : L2.St}
theorem k_dnew (q : ∀ p, H p = none → Q (.ref p) (upd H p (.dK []))) : tDNewK σ H Q := q
theorem k_set1 {te : TE} (q : ∀ p, H p = none → te σ (upd H p (SetO w p (fun _ => false) 0)) fun v H1 => ∃ k : Int, v = V.int k ∧ H1 p = some (SetO w p (fun _ => false) 0) ∧ Q (.ref p) (upd H1 p (SetO w p (fun j => decide (j = k)) 1))) : tSet1 w te σ H Q := q
theorem k_sadd {te : TE} {t : TA} (q : te σ H fun x H1 => (∃ a S n, x = V.ref a ∧ H1 a = some (SetO w a S n)) ∧ t σ H1 fun xs H2 => rSAdd w x xs H2 Q) : tSAdd w te t σ H Q := q
theorem k_sIn {k : Int} {a : Addr} {S : Int → Bool} {n : Nat} (h : H a = some (SetO w a S n)) (q : Q (.bl (S k)) H) : rSIn w (.int k) (.ref a) H Q := ⟨k, a, S, n, rfl, rfl, h, q⟩
theorem k_sNot {k : Int} {a : Addr} {S : Int → Bool} {n : Nat} (h : H a = some (SetO w a S n)) (q : Q (.bl (!S k)) H) : rSNotIn w (.int k) (.ref a) H Q := ⟨k, a, S, n, rfl, rfl, h, q⟩
theorem k_gsub {to ti : TE} {t : TSet} {v : V} {R : L2.St → Hp → Prop} (q : to σ H fun o H1 => ti σ H1 fun i H2 => t o i v H2 fun H3 => R σ H3) : gSub to ti t v σ H R := q
theorem k_rng3 {ta : TA} {R : It → Hp → Prop} (q : ta σ H fun vs H1 => ∃ (i j c : Int) (n : Nat), vs = [V.int i, V.int j, V.int c] ∧ RgC i j c n ∧ R (Itc i c n) H1) : iRng3 ta σ H R := q
theorem k_tru {te : TE} {R : Bool → Hp → Prop} (q : te σ H fun x H' => ∃ k, TruV K x H' k ∧ R k H') : tTru K te σ H R := q
theorem tru_L {a : Addr} {xs : List V} {R : Bool → Prop} (h : SqL K H a xs) (q : R (!xs.isEmpty)) : ∃ k, TruV K (.ref a) H k ∧ R k := ⟨_, Or.inl ⟨xs, h, rfl⟩, q⟩
theorem k_rSAdd {a : Addr} {k : Int} {S : Int → Bool} {n : Nat} (h : H a = some (SetO w a S n)) (l : n ≤ 1000) (no : S k = false) (q : Q .non (upd H a (SetO w a (fun j => S j || decide (j = k)) (n + 1)))) : rSAdd w (.ref a) [.int k] H Q :=
  ⟨a, k, S, n, rfl, rfl, h, Nat.lt_of_le_of_lt (Nat.succ_le_succ l) (by decide), by rw [if_neg (by rw [no]; decide)]; exact q⟩
theorem k_rPop {l : Addr} {xs : List V} {y : V} (h : H l = some (.lst (xs ++ [y]))) (q : Q y (upd H l (.lst xs))) : rPop (.ref l) [] H Q :=
  ⟨l, xs ++ [y], y, rfl, rfl, h, by rw [List.length_append, List.length_singleton, Nat.add_sub_cancel, List.getElem?_append_right (Nat.le_refl _), Nat.sub_self]; rfl, by rw [List.dropLast_concat]; exact q⟩
theorem forK_tup {g : TG} {tb : TS} {D : Ends} {a : Addr} {xs : List V} (Pv : Nat → L2.St → Hp → Prop) (h0 : Pv 0 σ H) (hl : ∀ i σ' H', i ≤ xs.length → Pv i σ' H' → SqT K H' a xs)
    (hs : ∀ i x σ' H', xs[i]? = some x → Pv i σ' H' → g x σ' H' fun σ2 H2 => tb { D with nx := Pv (i + 1), ct := Pv (i + 1), bk := D.nx } σ2 H2) (hd : ∀ σ' H', Pv xs.length σ' H' → D.nx σ' H') : forK g tb D σ (Itt K a) H := for_tup Pv h0 hl hs hd
end
end Mine
namespace Mine
open PySem PySem.Spec PyProof.Rows L2
open Evl (Ex)
def rRepS : R2 := fun x y H Q => ∃ z n, x = .str z ∧ y = .int n ∧ MulOk z n ∧ Q (.str (Txt.mul z n)) H
theorem op_rep_str {X : Cx} : OpR X (binaryOp .Mult) rRepS := by
  rintro pins s σ H x y v u Q I rx ry ⟨z, n, rfl, rfl, ok, q⟩
  obtain ⟨t, rfl⟩ := rx
  obtain ⟨t', rfl⟩ := ry
  exact SB.mul ok fun t'' k => ⟨.str _, H, I.tok _, ⟨t'', rfl⟩, q⟩
section
variable {H : Hp} {K : PySem.W.Frag} {Q : VK}
theorem k_lenX {l : List Nat} (h : l.length ≤ 3000) (q : Q (.int (l.length : Nat)) H) : rLenS [.str (tx l)] H Q :=
  ⟨tx l, rfl, by rw [tx_len]; exact fits h, by rw [tx_len]; exact q⟩
theorem k_catX {a b : List Nat} (h : a.length + b.length ≤ 3000) (q : Q (.str (tx (a ++ b))) H) : rCatS (.str (tx a)) (.str (tx b)) H Q :=
  ⟨tx a, tx b, rfl, rfl, by rw [tx_len, tx_len]; exact fits h, by rw [tx_cat]; exact q⟩
theorem k_ixX {l : List Nat} {i : Int} {c : Nat} (h : l.length ≤ 3000) (e : atI l i = some c) (q : Q (.str (tx [c])) H) : rIxS (.str (tx l)) (.int i) H Q :=
  ⟨tx l, i, c, rfl, rfl, by rw [tx_len]; exact fits h, by rw [tx_cps]; exact e, q⟩
theorem k_slX {l : List Nat} {lo hi : Option Int} (h : l.length ≤ 3000) (q : Q (.str (tx ((l.drop (HT.sIx l.length 0 lo)).take (HT.sIx l.length l.length hi - HT.sIx l.length 0 lo)))) H) : rSlS (.str (tx l)) lo hi H Q :=
  ⟨tx l, rfl, by rw [tx_len]; exact fits h, by rw [tx_cut]; exact q⟩
theorem k_eqX {a b : List Nat} (q : Q (.bl (decide (a = b))) H) : rEq (.str (tx a)) (.str (tx b)) H Q := ⟨rfl, by
  have e : decide (V.str (tx a) = V.str (tx b)) = decide (a = b) := decide_eq_decide.mpr ⟨fun h => tx_inj.mp (V.str.inj h), fun h => by rw [h]⟩
  rw [e]; exact q⟩
theorem k_neX {a b : List Nat} (q : Q (.bl (!decide (a = b))) H) : rNe (.str (tx a)) (.str (tx b)) H Q := ⟨rfl, by
  have e : decide (V.str (tx a) = V.str (tx b)) = decide (a = b) := decide_eq_decide.mpr ⟨fun h => tx_inj.mp (V.str.inj h), fun h => by rw [h]⟩
  first
    | (rw [← e] at q; exact q)
    | (show Q _ H; rw [← e] at q; simpa using q)⟩
theorem k_eqNX {b : Str} (q : Q (.bl false) H) : rEq .non (.str b) H Q := ⟨rfl, by
  have e : decide (V.non = V.str b) = false := decide_eq_false (fun h => by cases h)
  rw [e]; exact q⟩
theorem k_inX {c : Nat} {b : List Nat} (q : Q (.bl (decide (c ∈ b))) H) : rInS (.str (tx [c])) (.str (tx b)) H Q :=
  ⟨c, tx b, rfl, rfl, by rw [tx_cps]; exact q⟩
def okc (c : Nat) : Bool := decide (c = 84) || (decide (c = 70) || decide (c = 46))
theorem k_signs (F : FSIGNS K) {c : Nat} (q : Q (.bl (okc c)) H) : rIn K false (.str (tx [c])) (.ref (He.ga K "SIGNS")) H Q := by
  refine ⟨_, _, rfl, Or.inr (F.tu H), rfl, rfl, ?_⟩
  have e : inV (V.str (tx [c])) [.str "T", .str "F", .str "."] = okc c := by
    have key : ∀ d : Nat, eqV (V.str (tx [d])) (V.str (tx [c])) = decide (c = d) := by
      intro d
      show decide (tx [d] = tx [c]) = _
      refine decide_eq_decide.mpr ⟨fun h => ?_, fun h => by rw [h]⟩
      have := tx_inj.mp h
      injection this with h1
      exact h1.symm
    show (eqV (V.str (tx [84])) (V.str (tx [c])) || (eqV (V.str (tx [70])) (V.str (tx [c])) || (eqV (V.str (tx [46])) (V.str (tx [c])) || false))) = _
    rw [key, key, key, Bool.or_false]
    rfl
  rw [e]
  exact q
theorem k_allX {a : Addr} {bs : List Bool} (h : SqL K H a (bs.map V.bl)) (q : Q (.bl (bs.all id)) H) : rAll K [.ref a] H Q := ⟨a, bs, rfl, h, q⟩
theorem k_joinX {p : Addr} {l : List Nat} (h : SqL K H p (l.map fun c => V.str (tx [c]))) (few : l.length ≤ 3000) (q : Q (.str (tx l)) H) : rJoinS K (.str "") [.ref p] H Q := by
  refine ⟨tx [], p, l.map fun c => tx [c], rfl, rfl, Or.inl (by rw [List.map_map]; exact h), ?_, by rw [tx_join]; exact q⟩
  have e : (l.map fun c => tx [c]).map (·.length) = l.map fun _ => 1 := by
    rw [List.map_map]
    refine List.map_congr_left fun c _ => ?_
    show (tx [c]).length = 1
    rw [tx_len]; rfl
  have s : ∀ l : List Nat, (l.map fun _ => 1).sum = l.length := by
    intro l
    induction l with
    | nil => rfl
    | cons c l ih => rw [List.map_cons, List.sum_cons, ih, List.length_cons]; omega
  rw [e, s, List.length_map]
  have z : (tx []).length = 0 := rfl
  rw [z]
  omega
end
section
variable {g : TG} {tt : TT} {te : TE} {vs : List Nat} {σ : L2.St} {Q : VK} {H1 : Hp} {K : PySem.W.Frag}
theorem lcR_str {l : List Nat} (f : Nat → Option V) (len : l.length ≤ 3000) (t : ∀ (i c : Nat), l[i]? = some c → turnR g tt te vs σ (.str (tx [c])) (f c) H1)
    (q : ∀ D H', H1 D = none → Ex H1 H' → H' D = some (.lst (l.filterMap f)) → Q (.ref D) H') : lcR g tt te vs σ Q (Its (tx l)) H1 := by
  intro D hD
  refine ⟨fun i m H => i ≤ l.length ∧ m = l.length - i ∧ Ex H1 H ∧ H D = some (.lst ((l.take i).filterMap f)), ⟨l.length, Nat.zero_le _, by omega, Evl.Ex.new hD, upd_same⟩, ?_⟩
  rintro i m H ⟨hi, rfl, p⟩
  rcases Nat.lt_or_ge i l.length with h | h
  · refine Or.inr ⟨by show i < (tx l).cps.size; rw [tx_size]; exact h, fun H' => i + 1 ≤ l.length ∧ Ex H1 H' ∧ H' D = some (.lst ((l.take (i + 1)).filterMap f)), fun H' p' => ⟨l.length - (i + 1), by omega, by omega, rfl, p'.2⟩, ?_⟩
    rintro x H' ⟨rfl, c, hc, rfl⟩
    have hc' : l[i]? = some c := by
      have : (tx l).cps.toList[i]? = some c := by simpa using hc
      rw [tx_cps] at this
      exact this
    refine turn_in (t i c hc') p.1 hD p.2 (fits' ?_) fun H2 e h' => ⟨h, e, ?_⟩
    · refine Nat.le_trans (List.length_filterMap_le _ _) ?_
      rw [List.length_take]; omega
    · rw [h', List.take_add_one, hc', List.filterMap_append]
      cases h : f c <;> simp [h]
  · have e : i = l.length := by omega
    subst e
    refine Or.inl ⟨by show (tx l).cps.size ≤ l.length; rw [tx_size]; exact Nat.le_refl _, ?_⟩
    refine q D H hD p.1 ?_
    rw [p.2, List.take_of_length_le (Nat.le_refl _)]
theorem k_istr {te : TE} {R : It → Hp → Prop} {H : Hp} {σ : L2.St} (q : te σ H fun v H1 => ∃ x, v = .str x ∧ R (Its x) H1) : iStr te σ H R := q
end
end Mine
namespace Mine
open PySem PySem.Spec PyProof.Rows L2
open Evl (Ex)
def sgV : Option Nat → V
  | some c => .str (tx [c])
  | none => .non
def tgV : Option Int → V
  | some q => .int q
  | none => .non
def tgG (l : List Nat) (p : Nat) (j : Nat) (st : Int) : Option Int := if atL l (p + st) = some 46 then some (p + st) else if atL l (p + st) = some j ∧ atL l (p + 2 * st) = some 46 then some (p + 2 * st) else none
theorem tgt_G (s : Str) (l : List Nat) (p : Nat) : tgt s l p = tgG l p (jumF s) (stpF s) := rfl
theorem k_eqSg {H : Hp} {Q : VK} {o : Option Nat} {d : Nat} (q : Q (.bl (decide (o = some d))) H) : rEq (sgV o) (.str (tx [d])) H Q := by
  cases o with
  | none => exact k_eqNX q
  | some c =>
    refine k_eqX ?_
    have e : decide ([c] = [d]) = decide (some c = some d) := decide_eq_decide.mpr ⟨fun h => by injection h with h; rw [h], fun h => by injection h with h; rw [h]⟩
    rw [e]; exact q
theorem map_sign (l : List Nat) : l.map sign = l.map fun c => V.str (tx [c]) := rfl
end Mine
namespace Mine
open PySem PySem.Spec PyProof.Rows L2
theorem k_tyX {K : PySem.W.Frag} {H : Hp} {a : Str} {P : Prop} (q : P) : tyV K "str" (.str a) H ∧ P := ⟨by first | exact Or.inr ⟨rfl, a, rfl⟩ | exact Or.inr (Or.inl ⟨rfl, a, rfl⟩) | (unfold tyV; simp), q⟩
end Mine
namespace Mine
open PySem PySem.Spec PyProof.Rows L2
open Evl (Ex)
theorem ok_str {l : List Nat} (ok : OkL l) : PyData.strOk (tx l) = true := by
  unfold PyData.strOk tx
  rw [List.all_toArray, List.all_eq_true]
  intro c m
  rcases ok.2 c m with rfl | rfl | rfl <;> rfl
/-! the rows that the law draws -/
def signsF (k : Nat) : List Nat := match k with
  | 0 => [84, 70, 46]
  | 1 => [84, 70, 46, 46]
  | 2 => [84, 70, 84, 70, 46]
  | _ => [84, 46, 70]
theorem signsF_ok (k : Nat) : 3 ≤ (signsF k).length ∧ (signsF k).length ≤ 5 ∧ ∀ c ∈ signsF k, c = 84 ∨ c = 70 ∨ c = 46 := by
  match k with
  | 0 => exact ⟨by decide, by decide, by decide⟩
  | 1 => exact ⟨by decide, by decide, by decide⟩
  | 2 => exact ⟨by decide, by decide, by decide⟩
  | k + 3 => exact ⟨by show 3 ≤ 3; decide, by show 3 ≤ 5; decide, by show ∀ c ∈ [84, 46, 70], c = 84 ∨ c = 70 ∨ c = 46; decide⟩
def lineD (ds : List Int) : List Nat := (List.range (ds.getD (0 : Int).toNat 0 % 13).toNat).map fun (k : Nat) => (signsF (ds.getD (13 : Int).toNat 0 % 4).toNat).getD (ds.getD (1 + (k : Int)).toNat 0 % ((signsF (ds.getD (13 : Int).toNat 0 % 4).toNat).length : Int)).toNat 0
def lineF (c : Int) : List Nat := lineD (dgF c 14)
theorem lineD_ok (ds : List Int) : OkL (lineD ds) := by
  refine ⟨by unfold lineD; rw [List.length_map, List.length_range]; omega, fun c m => ?_⟩
  unfold lineD at m
  obtain ⟨k, _, rfl⟩ := List.mem_map.mp m
  obtain ⟨s1, s2, s3⟩ := signsF_ok (ds.getD (13 : Int).toNat 0 % 4).toNat
  generalize signsF (ds.getD (13 : Int).toNat 0 % 4).toNat = sg at *
  have h1 := Int.emod_nonneg (ds.getD (1 + (k : Int)).toNat 0) (b := (sg.length : Int)) (by omega)
  have h2 := Int.emod_lt_of_pos (ds.getD (1 + (k : Int)).toNat 0) (b := (sg.length : Int)) (by omega)
  have lt : (ds.getD (1 + (k : Int)).toNat 0 % (sg.length : Int)).toNat < sg.length := by omega
  rw [List.getD_eq_getElem?_getD, List.getElem?_eq_getElem lt]
  exact s3 _ (List.getElem_mem lt)
theorem lineF_ok (c : Int) : OkL (lineF c) := lineD_ok _
/-! the law's way to the moves -/
def pd (l : List Nat) : List Nat := [35, 35] ++ l ++ [35, 35]
theorem pd_at {l : List Nat} {j : Int} (h1 : -2 ≤ j) (h2 : j ≤ l.length + 1) : atI (pd l) (2 + j) = some ((atL l j).getD 35) := by
  obtain ⟨n, hn⟩ : ∃ n : Nat, 2 + j = (n : Int) := ⟨(2 + j).toNat, by omega⟩
  rw [hn]
  refine atI_nat ?_
  unfold pd atL
  rcases (show n < 2 ∨ (2 ≤ n ∧ n < l.length + 2) ∨ l.length + 2 ≤ n by omega) with h | ⟨h, h'⟩ | h
  · rw [if_neg (by omega), List.append_assoc, List.getElem?_append_left (by show n < 2; exact h)]
    match n with
    | 0 => rfl
    | 1 => rfl
  · rw [if_pos (by omega), List.append_assoc, List.getElem?_append_right (by show 2 ≤ n; exact h), List.getElem?_append_left (by show n - 2 < _; omega)]
    have e : j.toNat = n - 2 := by omega
    show l[n - 2]? = _
    rw [e, List.getElem?_eq_getElem (by omega)]; rfl
  · have e1 : l[j.toNat]? = none := List.getElem?_eq_none (by omega)
    have e2 : ([35, 35] ++ l).length = 2 + l.length := by rw [List.length_append]; rfl
    rw [if_pos (by omega), e1, List.getElem?_append_right (by omega), e2]
    show [35, 35][n - (2 + l.length)]? = some 35
    have e : n - (2 + l.length) = 0 ∨ n - (2 + l.length) = 1 := by omega
    rcases e with e | e <;> rw [e] <;> rfl
theorem getD_46 {o : Option Nat} : [o.getD 35] = [46] ↔ o = some 46 := by
  cases o with
  | none => simp
  | some c => simp
def gl (s : Str) (l : List Nat) (i : Nat) : Option Int := if l[i]? = some (ownF s) then tgt s l i else none
theorem mvAt_gl (s : Str) (l : List Nat) (i : Nat) : mvAtF s l i = (gl s l i).toList.map (mvL s l i) := by
  unfold mvAtF gl
  split
  · rfl
  · rfl
def glV (s : Str) (l : List Nat) (i : Nat) : Int := match gl s l i with
  | some q => q + 2
  | none => -1
theorem k_ifC {p : Prop} [Decidable p] {a b : V} {σ : L2.St} {H : Hp} {Q : VK} (q : Q (if p then a else b) H) : if decide p = true then tC a σ H Q else tC b σ H Q := by
  by_cases h : p
  · rw [if_pos h] at q; rw [if_pos (decide_eq_true h)]; exact q
  · rw [if_neg h] at q; rw [if_neg (by simpa using h)]; exact q
theorem k_ifU {p : Prop} [Decidable p] {σ : L2.St} {H : Hp} {Q : VK} (q : Q (.int (if p then 1 else -1)) H) : if decide p = true then tC (.int 1) σ H Q else tUn rNegI (tC (.int 1)) σ H Q := by
  by_cases h : p
  · rw [if_pos h] at q; rw [if_pos (decide_eq_true h)]; exact q
  · rw [if_neg h] at q; rw [if_neg (by simpa using h)]
    exact k_un (k_c (k_U q))
end Mine
namespace Mine
open PySem PySem.Spec PyProof.Rows L2
open Evl (Ex)
/-! floors: a free cell is 46, a covered one 35 -/
structure FFloor (K : PySem.W.Frag) : Prop where
  cl : Cls K (He.ga K "Floor")
  na : NoAttr K (He.ga K "Floor") "_rows"
structure FSHAPES (K : PySem.W.Frag) : Prop where
  l : PySem.W.nsIn K (He.ga K "SHAPES") "left" = some (some (.ref (kdA K "SHAPES" "left"))) ∧ ∀ H, SqT K H (kdA K "SHAPES" "left") [.int 1, .int 0]
  r : PySem.W.nsIn K (He.ga K "SHAPES") "right" = some (some (.ref (kdA K "SHAPES" "right"))) ∧ ∀ H, SqT K H (kdA K "SHAPES" "right") [.int 0, .int 1]
def gfl (t : Addr) : List (Str × V) := putF "_rows" (.ref t) []
theorem gfl_get (t : Addr) : (gfl t).lookup ("_rows" : Str) = some (.ref t) := by
  unfold gfl
  rw [lookup_putF, if_pos rfl]
theorem gfl_no (t : Addr) {m : Str} (h : ¬ m = "_rows") : (gfl t).lookup m = none := by
  unfold gfl
  rw [lookup_putF, if_neg h]
  rfl
abbrev Fl := List (List Nat)
def rowsV (rs : Fl) : List V := rs.map fun r => V.str (tx r)
theorem rowsV_len (rs : Fl) : (rowsV rs).length = rs.length := List.length_map _
theorem rowsV_at {rs : Fl} {i : Nat} {r : List Nat} (h : rs[i]? = some r) : (rowsV rs)[i]? = some (.str (tx r)) := by
  unfold rowsV; rw [List.getElem?_map, h]; rfl
def OkR (w : Nat) (r : List Nat) : Prop := r.length = w ∧ ∀ c ∈ r, c = 46 ∨ c = 35
structure OkF (rs : Fl) (w : Nat) : Prop where
  n1 : 1 ≤ rs.length
  n6 : rs.length ≤ 6
  w1 : 1 ≤ w
  w6 : w ≤ 6
  ok : ∀ r ∈ rs, OkR w r
theorem OkF.at {rs : Fl} {w : Nat} (h : OkF rs w) {i : Nat} (hi : i < rs.length) : ∃ r, rs[i]? = some r ∧ OkR w r :=
  ⟨rs[i], List.getElem?_eq_getElem hi, h.ok _ (List.getElem_mem hi)⟩
/-- a board -/
def FlAt (K : PySem.W.Frag) (H : Hp) (b : Addr) (rs : Fl) : Prop := ∃ dx t, H b = some (.ins (He.ga K "Floor") dx (gfl t)) ∧ H t = some (.tup (rowsV rs))
theorem FlAt.keep {K : PySem.W.Frag} {H H' : Hp} {b : Addr} {l : Fl} (h : FlAt K H b l) (k : ∀ c o, H c = some o → (∀ ys, o ≠ .lst ys) → H' c = some o) : FlAt K H' b l :=
  let ⟨dx, t, h1, h2⟩ := h; ⟨dx, t, k _ _ h1 (fun ys z => by cases z), k _ _ h2 (fun ys z => by cases z)⟩
theorem FlAt.ex {K : PySem.W.Frag} {H H' : Hp} {b : Addr} {l : Fl} (h : FlAt K H b l) (e : Ex H H') : FlAt K H' b l := h.keep fun c o z _ => e c o z
def FlV (K : PySem.W.Frag) (H : Hp) (y : V) (l : Fl) : Prop := ∃ b, y = .ref b ∧ FlAt K H b l
theorem FlV.keep {K : PySem.W.Frag} {H H' : Hp} {y : V} {l : Fl} (h : FlV K H y l) (k : ∀ c o, H c = some o → (∀ ys, o ≠ .lst ys) → H' c = some o) : FlV K H' y l := let ⟨b, r, z⟩ := h; ⟨b, r, z.keep k⟩
theorem FlV.ex {K : PySem.W.Frag} {H H' : Hp} {y : V} {l : Fl} (h : FlV K H y l) (e : Ex H H') : FlV K H' y l := h.keep fun c o z _ => e c o z
def DuL (H : Hp) (y : V) (l : Fl) : Prop := ∃ d t, y = .ref d ∧ H d = some (.tup [.str "floor", .ref t]) ∧ H t = some (.tup (rowsV l))
theorem DuL.keep {H H' : Hp} {y : V} {l : Fl} (h : DuL H y l) (k : ∀ c o, H c = some o → (∀ ys, o ≠ .lst ys) → H' c = some o) : DuL H' y l := let ⟨d, t, r, z, u⟩ := h; ⟨d, t, r, k _ _ z (fun ys z => by cases z), k _ _ u (fun ys z => by cases z)⟩
theorem DuL.ex {H H' : Hp} {y : V} {l : Fl} (h : DuL H y l) (e : Ex H H') : DuL H' y l := h.keep fun c o z _ => e c o z
abbrev BsL (K : PySem.W.Frag) (H : Hp) (ys : List V) (ls : List Fl) : Prop := AllAt (FlV K) H ys ls
abbrev DsL (H : Hp) (ys : List V) (ls : List Fl) : Prop := AllAt DuL H ys ls
/-! cells and moves -/
def cell (rs : Fl) (i j : Nat) : Option Nat := rs[i]?.bind fun r => r[j]?
def fre (rs : Fl) (i j : Nat) : Bool := decide (cell rs i j = some 46)
def cov (rs : Fl) (i j : Nat) : Fl := rs.set i ((rs.getD i []).set j 35)
def dnF (s : Str) : Nat := if s = "left" then 1 else 0
def rtF (s : Str) : Nat := if s = "left" then 0 else 1
def mvAtL (s : Str) (rs : Fl) (i j : Nat) : List Fl := if fre rs i j = true ∧ fre rs (i + dnF s) (j + rtF s) = true then [cov (cov rs i j) (i + dnF s) (j + rtF s)] else []
def mvsL (s : Str) (w : Nat) (rs : Fl) : List Fl := (List.range rs.length).flatMap fun i => (List.range w).flatMap fun j => mvAtL s rs i j
theorem fre_in {rs : Fl} {i j w : Nat} (ok : OkF rs w) (h : fre rs i j = true) : i < rs.length ∧ j < w := by
  have h := of_decide_eq_true h
  unfold cell at h
  cases e : rs[i]? with
  | none => rw [e] at h; cases h
  | some r =>
    rw [e] at h
    have hi := (List.getElem?_eq_some_iff.mp e).1
    have hj : r[j]? = some 46 := h
    have := (List.getElem?_eq_some_iff.mp hj).1
    have ol := (ok.ok r (List.mem_of_getElem? e)).1
    exact ⟨hi, by omega⟩
theorem cov_ok {rs : Fl} {w i j : Nat} (ok : OkF rs w) (hi : i < rs.length) : OkF (cov rs i j) w := by
  have hl : (cov rs i j).length = rs.length := List.length_set
  refine ⟨by rw [hl]; exact ok.n1, by rw [hl]; exact ok.n6, ok.w1, ok.w6, fun r m => ?_⟩
  rcases List.mem_or_eq_of_mem_set m with m | rfl
  · exact ok.ok r m
  · have e : rs.getD i [] = rs[i] := by rw [List.getD_eq_getElem?_getD, List.getElem?_eq_getElem hi]; rfl
    rw [e]
    have o := ok.ok _ (List.getElem_mem hi)
    refine ⟨by rw [List.length_set]; exact o.1, fun c m => ?_⟩
    rcases List.mem_or_eq_of_mem_set m with m | rfl
    · exact o.2 c m
    · exact Or.inr rfl
theorem mvAt_ok {s : Str} {rs : Fl} {w i j : Nat} (ok : OkF rs w) : ∀ r ∈ mvAtL s rs i j, OkF r w ∧ r.length = rs.length := by
  intro r m
  unfold mvAtL at m
  split at m
  · rename_i h
    rw [List.mem_singleton] at m
    subst m
    have h1 := fre_in ok h.1
    have h2 := fre_in ok h.2
    refine ⟨cov_ok (cov_ok ok h1.1) (by unfold cov; rw [List.length_set]; exact h2.1), by unfold cov; rw [List.length_set, List.length_set]⟩
  · cases m
theorem mvsL_ok {s : Str} {rs : Fl} {w : Nat} (ok : OkF rs w) : ∀ r ∈ mvsL s w rs, OkF r w := by
  intro r m
  unfold mvsL at m
  obtain ⟨i, _, m⟩ := List.mem_flatMap.mp m
  obtain ⟨j, _, m⟩ := List.mem_flatMap.mp m
  exact (mvAt_ok ok r m).1
theorem mvAtL_len (s : Str) (rs : Fl) (i j : Nat) : (mvAtL s rs i j).length ≤ 1 := by
  unfold mvAtL
  split <;> simp
theorem flat_len {α : Type} (f : Nat → List α) (b : Nat) (h : ∀ i, (f i).length ≤ b) (n : Nat) : ((List.range n).flatMap f).length ≤ n * b := by
  induction n with
  | zero => simp
  | succ n ih =>
    rw [List.range_succ, List.flatMap_append, List.length_append, List.flatMap_cons, List.flatMap_nil, List.append_nil, Nat.add_mul, Nat.one_mul]
    have := h n
    omega
/-! texts: a row's kind -/
def okd (c : Nat) : Bool := decide (c = 46) || decide (c = 35)
theorem okd_iff (c : Nat) : okd c = true ↔ (c = 46 ∨ c = 35) := by
  unfold okd
  rw [Bool.or_eq_true, decide_eq_true_iff, decide_eq_true_iff]
section
variable {H : Hp} {K : PySem.W.Frag} {Q : VK}
theorem k_inDots {t : Addr} (h : SqT K H t [.str ".", .str "#"]) {c : Nat} (q : Q (.bl (okd c)) H) : rIn K false (.str (tx [c])) (.ref t) H Q := by
  refine ⟨_, _, rfl, Or.inr h, rfl, rfl, ?_⟩
  have e : inV (V.str (tx [c])) [.str ".", .str "#"] = okd c := by
    have key : ∀ d : Nat, eqV (V.str (tx [d])) (V.str (tx [c])) = decide (c = d) := by
      intro d
      show decide (tx [d] = tx [c]) = _
      refine decide_eq_decide.mpr ⟨fun h => ?_, fun h => by rw [h]⟩
      have := tx_inj.mp h
      injection this with h1
      exact h1.symm
    show (eqV (V.str (tx [46])) (V.str (tx [c])) || (eqV (V.str (tx [35])) (V.str (tx [c])) || false)) = _
    rw [key, key, Bool.or_false]
    rfl
  rw [e]
  exact q
end
section
variable {te : TE} {σ : L2.St} {H1 : Hp}
/-- a turn that may make objects -/
theorem turn_mapE {i : Nat} {x y : V} (h : ∀ H', Ex H1 H' → ∀ R : VK, (∀ H'', Ex H' H'' → R y H'') → te ((wipe σ [i]).set i (some x)) H' R) (w : wipe ((wipe σ [i]).set i (some x)) [i] = wipe σ [i] := by rfl) : turnR (gName i) tYes te [i] σ x (some y) H1 :=
  fun H' e R r => ⟨w, h H' e (fun y H4 => R (some y) H4) r⟩
end
/-- what is known of a thing in a list of rows -/
def Kn (K : PySem.W.Frag) (H : Hp) (v : V) : Prop := (∃ T, TyB K H v T ∧ T ≠ "str") ∨ ∃ r, v = .str (tx r) ∧ r.length ≤ 100
theorem Kn.ex {K : PySem.W.Frag} {H H' : Hp} {v : V} (h : Kn K H v) (e : Ex H H') : Kn K H' v := by
  rcases h with ⟨T, t, n⟩ | h
  · exact Or.inl ⟨T, TyB.ex t e, n⟩
  · exact Or.inr h
theorem ty_str {K : PySem.W.Frag} {H : Hp} {r : Str} {T : String} (h : TyB K H (.str r) T) : T = "str" := by cases h; rfl
/-- no list of rows -/
def NoF (xs : List V) : Prop := ∀ rs w, OkF rs w → xs ≠ rowsV rs
/-- a row as it must be, of the first row's length -/
def Row0 (n : Nat) (v : V) : Prop := ∃ r, v = .str (tx r) ∧ r.length = n ∧ 1 ≤ r.length ∧ r.length ≤ 6 ∧ r.all okd = true
def len0 : List V → Nat
  | .str s :: _ => s.length
  | _ => 0
theorem rows_of {xs : List V} (h1 : 1 ≤ xs.length) (h6 : xs.length ≤ 6) (h : ∀ v ∈ xs, Row0 (len0 xs) v) : ∃ rs w, OkF rs w ∧ xs = rowsV rs := by
  have ex : ∀ ys : List V, (∀ v ∈ ys, Row0 (len0 xs) v) → ∃ rs : Fl, ys = rowsV rs ∧ ∀ r ∈ rs, OkR (len0 xs) r := by
    intro ys
    induction ys with
    | nil => exact fun _ => ⟨[], rfl, fun _ m => by cases m⟩
    | cons y ys ih =>
      intro h
      obtain ⟨rs, e, o⟩ := ih fun v m => h v (List.mem_cons_of_mem _ m)
      obtain ⟨r, e2, l, _, _, a⟩ := h y (List.mem_cons_self)
      refine ⟨r :: rs, by rw [e, e2]; rfl, fun q m => ?_⟩
      rcases List.mem_cons.mp m with rfl | m
      · exact ⟨l, fun c mc => (okd_iff c).mp (List.all_eq_true.mp a c mc)⟩
      · exact o q m
  obtain ⟨rs, e, o⟩ := ex xs h
  have hl : rs.length = xs.length := by rw [e, rowsV_len]
  refine ⟨rs, len0 xs, ⟨by omega, by omega, ?_, ?_, o⟩, e⟩
  · obtain ⟨r, _, l, a, b, _⟩ := h xs[0] (List.getElem_mem (by omega)); omega
  · obtain ⟨r, _, l, a, b, _⟩ := h xs[0] (List.getElem_mem (by omega)); omega
theorem row_of {xs : List V} {rs : Fl} {w : Nat} (ok : OkF rs w) (e : xs = rowsV rs) : 1 ≤ xs.length ∧ xs.length ≤ 6 ∧ ∀ v ∈ xs, Row0 (len0 xs) v := by
  subst e
  refine ⟨by rw [rowsV_len]; exact ok.n1, by rw [rowsV_len]; exact ok.n6, fun v m => ?_⟩
  obtain ⟨r, mr, rfl⟩ := List.mem_map.mp m
  have o := ok.ok r mr
  have e0 : len0 (rowsV rs) = w := by
    cases rs with
    | nil => cases mr
    | cons q qs =>
      show (tx q).length = w
      rw [tx_len]; exact (ok.ok q (List.mem_cons_self)).1
  rw [e0]
  exact ⟨r, rfl, o.1, by rw [o.1]; exact ok.w1, by rw [o.1]; exact ok.w6, List.all_eq_true.mpr fun c m => (okd_iff c).mpr (o.2 c m)⟩
/-! the rows that the law draws -/
def widD (ds : List Int) : Nat := (1 + ds.getD 1 0 % 6).toNat
def rowD (ds : List Int) (line : Nat) : List Nat := (List.range (widD ds)).map fun k => if ds.getD (3 + 6 * line + k) 0 % (2 + ds.getD 2 0 % 4) = 1 then 35 else 46
def rowsD (ds : List Int) : Fl := (List.range (1 + ds.getD 0 0 % 6).toNat).map (rowD ds)
def rowsF (c : Int) : Fl := rowsD (dgF c 39)
def widF (c : Int) : Nat := widD (dgF c 39)
theorem rowsF_ok (c : Int) : OkF (rowsF c) (widF c) := by
  unfold rowsF widF rowsD
  generalize dgF c 39 = ds
  have w : widD ds = (1 + ds.getD 1 0 % 6).toNat := rfl
  refine ⟨by rw [List.length_map, List.length_range]; omega, by rw [List.length_map, List.length_range]; omega, by omega, by omega, fun r m => ?_⟩
  obtain ⟨l, _, rfl⟩ := List.mem_map.mp m
  refine ⟨by unfold rowD; rw [List.length_map, List.length_range], fun c m => ?_⟩
  obtain ⟨k, _, rfl⟩ := List.mem_map.mp m
  split
  · exact Or.inr rfl
  · exact Or.inl rfl
end Mine
namespace Mine
open PySem PySem.Spec PyProof.Rows L2
open Evl (Ex)
/-! what makes no floor -/
/-- never a row -/
def Never (v : V) : Prop := ∀ r, v = .str (tx r) → 1 ≤ r.length → r.length ≤ 6 → (∀ c ∈ r, c = 46 ∨ c = 35) → False
theorem put_at {xs : List V} {i : Nat} (h : i < xs.length) (v : V) : xs.take i ++ [v] ++ xs.drop (i + 1) = xs.set i v := by
  rw [List.set_eq_take_append_cons_drop, if_pos h, List.append_assoc]; rfl
theorem noF_put {rs : Fl} {w pl : Nat} {v : V} (ok : OkF rs w) (hp : pl < rs.length)
    (h : ∀ r, v = .str (tx r) → 1 ≤ r.length → r.length ≤ 6 → (∀ c ∈ r, c = 46 ∨ c = 35) → (1 < rs.length → r.length = w) → False) : NoF ((rowsV rs).set pl v) := by
  intro rs2 w2 ok2 e
  have hl := rowsV_len rs
  have e1 : (rowsV rs2)[pl]? = some v := by rw [← e]; exact List.getElem?_set_self (by omega)
  obtain ⟨r2, h2, e2⟩ : ∃ r2, rs2[pl]? = some r2 ∧ v = .str (tx r2) := by
    unfold rowsV at e1
    rw [List.getElem?_map] at e1
    obtain ⟨r2, a, b⟩ := Option.map_eq_some_iff.mp e1
    exact ⟨r2, a, b.symm⟩
  have o2 := ok2.ok r2 (List.mem_of_getElem? h2)
  have w1 := ok2.w1
  have w6 := ok2.w6
  refine h r2 e2 (by rw [o2.1]; exact w1) (by rw [o2.1]; exact w6) o2.2 fun n1 => ?_
  have key : ∀ k, k < rs.length → k ≠ pl → r2.length = w := by
    intro k hk ne
    obtain ⟨r, hr, o⟩ := ok.at hk
    have ek : (rowsV rs2)[k]? = some (.str (tx r)) := by
      rw [← e, List.getElem?_set_ne (fun h => ne h.symm)]
      exact rowsV_at hr
    unfold rowsV at ek
    rw [List.getElem?_map] at ek
    obtain ⟨r3, a, b⟩ := Option.map_eq_some_iff.mp ek
    injection b with b
    have b := tx_inj.mp b
    subst b
    have o3 := ok2.ok r3 (List.mem_of_getElem? a)
    rw [o2.1, ← o3.1]
    exact o.1
  by_cases z : pl = 0
  · exact key 1 (by omega) (by omega)
  · exact key 0 (by omega) (fun h => z h.symm)
theorem kn_rows {K : PySem.W.Frag} {H : Hp} {rs : Fl} {w : Nat} (ok : OkF rs w) : ∀ v ∈ rowsV rs, Kn K H v := by
  intro v m
  obtain ⟨r, mr, rfl⟩ := List.mem_map.mp m
  have o := (ok.ok r mr).1
  have := ok.w6
  exact Or.inr ⟨r, rfl, by omega⟩
theorem kn_put {K : PySem.W.Frag} {H : Hp} {rs : Fl} {w pl : Nat} {v : V} (ok : OkF rs w) (kv : Kn K H v) : ∀ x ∈ (rowsV rs).set pl v, Kn K H x := by
  intro x m
  rcases List.mem_or_eq_of_mem_set m with m | rfl
  · exact kn_rows ok x m
  · exact kv
theorem small_ok {l : List Nat} (h : ∀ c ∈ l, c < 128) : PyData.strOk (tx l) = true := by
  unfold PyData.strOk tx
  rw [List.all_toArray, List.all_eq_true]
  intro c m
  have k : ∀ c : Nat, c < 128 → (decide (c < 1114112) && !(decide (55296 ≤ c) && decide (c ≤ 57343))) = true ∨ True := fun _ _ => Or.inr trivial
  have := h c m
  simp
  omega
theorem shaped_str {l : List Nat} (h : ∀ c ∈ l, c < 128) : SeqAt.shaped (.str (tx l)) = true := by
  have hd : (PyData.str (tx l)).depth ≤ 64 := by simp only [PyData.depth]; decide
  have hl : (PyData.str (tx l)).canLay0 = true := by simp only [PyData.canLay0]; exact small_ok h
  unfold SeqAt.shaped
  rw [hl, decide_eq_true hd]
  rfl
/-- a thing that can be compared with a text -/
def Cmp (K : PySem.W.Frag) (H : Hp) (v : V) : Prop := ∃ d, Dp K H v d ∧ SeqAt.shaped d = true
theorem k_neS {K : PySem.W.Frag} {H : Hp} {Q : VK} {v : V} {y : List Nat} (h : Cmp K H v) (hy : ∀ c ∈ y, c < 128) (q : ∀ b : Bool, (b = true → v ≠ .str (tx y)) → Q (.bl b) H) : rNeD K v (.str (tx y)) H Q := by
  obtain ⟨d, hd, sd⟩ := h
  refine ⟨d, .str (tx y), hd, .str _, sd, shaped_str hy, q _ fun hb e => ?_⟩
  subst e
  cases hd
  simp only [PyData.eqv] at hb
  simp at hb
theorem k_orP {P A B : Prop} {b : Bool} (ha : P → A) (h1 : b = true → P) (h2 : (P → A) → B) : if b = true then A else B := by
  cases b
  · exact h2 ha
  · exact ha (h1 rfl)
end Mine
namespace Mine
open PySem PySem.Spec PyProof.Rows L2
/-! name = {k: v for ..}, a statement of its own -/
section
variable {X : Cx}
theorem ps_setDc {i : Nat} {y : Str} {py : Pos} {kx vx tg iter : Expr} {ifs : List Expr} {scope : Scope} {own : List (Str × Nat)} {pos spos : Pos} {wi : TI} {g : TG} {tt : TT} {tk tv : TE} (hc : X.calm = true) (hN : X.N.Nodup) (hy : X.N[i]? = some y) (hyl : X.env.scope.names.lookup y = some .local)
    (hsw : swapsWith (.DictComp kx vx [⟨tg, iter, ifs, 0⟩] scope pos) (some (.Name y py)) spos.line X.env = pure true) (hi : PI X tg iter wi) (ok : BlkOk X.N X.env.scope scope own)
    (hg : ∀ (s : Shared) (H : Hp) (C : Addr) (cl : List (Str × Addr)) (fp : List Addr), PG (X.blk s H scope (compEnvC scope cl C X.env) fp) tg g) (ht : ∀ (s : Shared) (H : Hp) (C : Addr) (cl : List (Str × Addr)) (fp : List Addr), PTs (X.blk s H scope (compEnvC scope cl C X.env) fp) ifs tt)
    (hk : ∀ (s : Shared) (H : Hp) (C : Addr) (cl : List (Str × Addr)) (fp : List Addr), PE (X.blk s H scope (compEnvC scope cl C X.env) fp) kx tk)
    (hv : ∀ (s : Shared) (H : Hp) (C : Addr) (cl : List (Str × Addr)) (fp : List Addr), PE (X.blk s H scope (compEnvC scope cl C X.env) fp) vx tv) (hs : ∀ x, foldedSetIterable iter X.env x = pure x := by intro _; rfl) :
    PS X (.Assign [.Name y py] (.DictComp kx vx [⟨tg, iter, ifs, 0⟩] scope pos) spos) (tAsg (tDc wi g tt tk tv (own.map (·.2))) (gName i)) := by
  refine ⟨fun pins s σ H D I h => ?_⟩
  rw [exec_Assign_Name_used _ _ _ _ hsw]
  refine wpAny_bind (wpAny_standAt (wpAny_bind ?_))
  show wpAny _ X.A (do let _ ← comprehension (.DictComp kx vx [⟨tg, iter, ifs, 0⟩] scope pos) scope X.env (firstIterPos [⟨tg, iter, ifs, 0⟩] pos) newDict false (eval iter X.env) (some (assign (.Name y py) X.env))) _ _ s
  have h : tDc wi g tt tk tv (own.map (·.2)) σ H (fun x H1 => gName i x σ H1 D.nx) := h
  refine wpAny_bind (thn (dc_core (Qf := fun _ s' => SP X pins D .next s') hc hN I hi ok hg ht hk hv hs h fun L C s' m H' I' q hn f => ?_) fun _ s' hq => wpAny_pure (wpAny_pure hq))
  show wpAny _ _ (assign (.Name y py) X.env (.ref L)) _ _ _
  refine wpAny_assign_Name (store_ok2 (v := V.ref L) I' hN hy (.inl hyl) rfl (fun s2 I2 ⟨a, sb, ha⟩ => ?_) (.inr hyl))
  obtain ⟨f0, f1, f2, f3, f4, f5⟩ := f
  have far : C ≠ a := by
    rcases ha with z | z
    · rw [z]; exact f1
    · exact fun e => f4 y a z e.symm
  refine ⟨m, hn.sameBut sb far, fun h3 sb3 => ?_⟩
  exact ⟨_, H', I2.turned (t' := s2.toks) (fun b o hb e => (sb3.2 b hb).trans e) f0 f1 f3 f4 f5, q⟩
theorem swD_true {kx vx : Expr} {gs : List Comprehension} {scope : Scope} {pos py : Pos} {y : Str} {l : Nat} {env : Env} (hk : env.scope.kind = .function) (hy : env.scope.names.lookup y = some .local) (hl : (py.line == pos.line) = true)
    (ha : (scope.names.any fun (n, k) => n == y && (k == .local || k == .cell)) = false) : swapsWith (.DictComp kx vx gs scope pos) (some (.Name y py)) l env = pure true := by
  have ky : env.kindOf y = some .local := hy
  have hb : env.blockKind = .function := by unfold Env.blockKind; rw [hk]; rfl
  unfold swapsWith
  simp only [hb, ky, ha, Expr.pos, hl]
  rfl
end
end Mine
namespace Mine
open PySem PySem.Spec PyProof.Rows L2
open Evl (Ex)
/-! hedges: an edge is two knots and a colour -/
structure FHedge (K : PySem.W.Frag) : Prop where
  cl : Cls K (He.ga K "Hedge")
  na : NoAttr K (He.ga K "Hedge") "_edges"
structure FCOLOURS (K : PySem.W.Frag) : Prop where
  tu : ∀ H, SqT K H (He.ga K "COLOURS") [.str "blue", .str "green", .str "red"]
abbrev Edge := Nat × Nat × Str
def OkC3 (s : Str) : Prop := s = "blue" ∨ s = "green" ∨ s = "red"
def OkE (e : Edge) : Prop := e.1 ≤ 15 ∧ e.2.1 ≤ 15 ∧ OkC3 e.2.2
def EdAt (H : Hp) (y : V) (e : Edge) : Prop := ∃ a, y = .ref a ∧ H a = some (.tup [.int (e.1 : Int), .int (e.2.1 : Int), .str e.2.2])
theorem EdAt.keep {H H' : Hp} {y : V} {e : Edge} (h : EdAt H y e) (k : ∀ c o, H c = some o → (∀ ys, o ≠ .lst ys) → H' c = some o) : EdAt H' y e := let ⟨a, r, z⟩ := h; ⟨a, r, k _ _ z (fun ys z => by cases z)⟩
theorem EdAt.ex {H H' : Hp} {y : V} {e : Edge} (h : EdAt H y e) (x : Ex H H') : EdAt H' y e := h.keep fun c o z _ => x c o z
abbrev EsAt (H : Hp) (ys : List V) (es : List Edge) : Prop := AllAt EdAt H ys es
def ghe (t : Addr) : List (Str × V) := putF "_edges" (.ref t) []
theorem ghe_get (t : Addr) : (ghe t).lookup ("_edges" : Str) = some (.ref t) := by
  unfold ghe
  rw [lookup_putF, if_pos rfl]
theorem ghe_no (t : Addr) {m : Str} (h : ¬ m = "_edges") : (ghe t).lookup m = none := by
  unfold ghe
  rw [lookup_putF, if_neg h]
  rfl
/-- a board -/
def HgAt (K : PySem.W.Frag) (H : Hp) (b : Addr) (es : List Edge) : Prop := ∃ dx t xs, H b = some (.ins (He.ga K "Hedge") dx (ghe t)) ∧ H t = some (.tup xs) ∧ EsAt H xs es
theorem HgAt.ex {K : PySem.W.Frag} {H H' : Hp} {b : Addr} {es : List Edge} (h : HgAt K H b es) (x : Ex H H') : HgAt K H' b es :=
  let ⟨dx, t, xs, h1, h2, h3⟩ := h; ⟨dx, t, xs, x _ _ h1, x _ _ h2, h3.imp fun y c q => q.ex x⟩
def DuH (H : Hp) (y : V) (es : List Edge) : Prop := ∃ d t xs, y = .ref d ∧ H d = some (.tup [.str "hedge", .ref t]) ∧ H t = some (.tup xs) ∧ EsAt H xs es
theorem DuH.ex {H H' : Hp} {y : V} {es : List Edge} (h : DuH H y es) (x : Ex H H') : DuH H' y es :=
  let ⟨d, t, xs, r, h1, h2, h3⟩ := h; ⟨d, t, xs, r, x _ _ h1, x _ _ h2, h3.imp fun y c q => q.ex x⟩
/-! the knots that hang from the ground -/
inductive Hangs (es : List Edge) : Nat → Prop
  | ground : Hangs es 0
  | up {e : Edge} : e ∈ es → Hangs es e.1 → Hangs es e.2.1
  | down {e : Edge} : e ∈ es → Hangs es e.2.1 → Hangs es e.1
theorem hangs_small {es : List Edge} (ok : ∀ e ∈ es, OkE e) : ∀ {k : Nat}, Hangs es k → k ≤ 15 := by
  intro k h
  induction h with
  | ground => exact Nat.zero_le _
  | up m _ _ => exact (ok _ m).2.1
  | down m _ _ => exact (ok _ m).1
/-- what is closed and holds the ground holds all that hangs -/
theorem closed_all {es : List Edge} {S : Nat → Prop} (h0 : S 0) (hc : ∀ e ∈ es, S e.1 ↔ S e.2.1) : ∀ {k : Nat}, Hangs es k → S k := by
  intro k h
  induction h with
  | ground => exact h0
  | up m _ ih => exact (hc _ m).mp ih
  | down m _ ih => exact (hc _ m).mpr ih
theorem closed_eq {es : List Edge} {S : Nat → Prop} (h0 : S 0) (hs : ∀ k, S k → Hangs es k) (hc : ∀ e ∈ es, S e.1 ↔ S e.2.1) (k : Nat) : S k ↔ Hangs es k := ⟨hs k, closed_all h0 hc⟩
open Classical in
/-- the edges that hang -/
noncomputable def keptE (es : List Edge) : List Edge := es.filter fun e => decide (Hangs es e.1)
open Classical in
theorem kept_by {es : List Edge} {f : Nat → Bool} (h : ∀ k, f k = true ↔ Hangs es k) : es.filter (fun e => f e.1) = keptE es := by
  unfold keptE
  refine List.filter_congr fun e _ => ?_
  cases hb : f e.1
  · exact (decide_eq_false fun q => by rw [(h _).mpr q] at hb; cases hb).symm
  · exact (decide_eq_true ((h _).mp hb)).symm
theorem nodup_len : ∀ (l m : List Nat), l.Nodup → (∀ x ∈ l, x ∈ m) → l.length ≤ m.length
  | [], _, _, _ => Nat.zero_le _
  | a :: l, m, nd, h => by
    obtain ⟨na, nl⟩ := List.nodup_cons.mp nd
    have ha := h a (List.mem_cons_self)
    have q := nodup_len l (m.erase a) nl fun x mx => (List.mem_erase_of_ne (fun (e : x = a) => na (by rw [← e]; exact mx))).mpr (h x (List.mem_cons_of_mem _ mx))
    rw [List.length_erase_of_mem ha] at q
    have := List.length_pos_of_mem ha
    rw [List.length_cons]
    omega
/-- distinct knots are sixteen at most -/
theorem few_knots {l : List Nat} (nd : l.Nodup) (h : ∀ k ∈ l, k ≤ 15) : l.length ≤ 16 := by
  have := nodup_len l (List.range 16) nd fun k m => List.mem_range.mpr (by have := h k m; omega)
  simpa using this
/-! the knots that edges lead to from some knots -/
inductive From (es : List Edge) (st : List Nat) : Nat → Prop
  | base {k : Nat} : k ∈ st → From es st k
  | up {e : Edge} : e ∈ es → From es st e.1 → From es st e.2.1
  | down {e : Edge} : e ∈ es → From es st e.2.1 → From es st e.1
theorem From.ind {es : List Edge} {st : List Nat} {S : Nat → Prop} (h0 : ∀ k ∈ st, S k) (hc : ∀ e ∈ es, S e.1 ↔ S e.2.1) {k : Nat} (h : From es st k) : S k := by
  induction h with
  | base m => exact h0 _ m
  | up m _ ih => exact (hc _ m).mp ih
  | down m _ ih => exact (hc _ m).mpr ih
theorem from_eq {es : List Edge} {st : List Nat} {S : Nat → Prop} (h0 : ∀ k ∈ st, S k) (hs : ∀ k, S k → From es st k) (hc : ∀ e ∈ es, S e.1 ↔ S e.2.1) (k : Nat) : S k ↔ From es st k := ⟨hs k, From.ind h0 hc⟩
theorem from_hangs (es : List Edge) (k : Nat) : From es [0] k ↔ Hangs es k := by
  constructor
  · intro h
    induction h with
    | base m => rw [List.mem_singleton.mp m]; exact .ground
    | up m _ ih => exact .up m ih
    | down m _ ih => exact .down m ih
  · intro h
    induction h with
    | ground => exact .base List.mem_cons_self
    | up m _ ih => exact .up m ih
    | down m _ ih => exact .down m ih
end Mine
namespace Mine
open PySem PySem.Spec PyProof.Rows L2
open Evl (Ex)
/-! dicts whose keys are nested tuples of ints and texts, with any values -/
mutual
/-- the value is the key -/
inductive KeyV (H : Hp) : NestedKey → V → Prop
  | num (i : Int) : KeyV H (.num i) (.int i)
  | text (s : Str) : KeyV H (.text s) (.str s)
  | tup {a : Addr} {ks : List NestedKey} {xs : List V} : H a = some (.tup xs) → KeyVs H ks xs → KeyV H (.tup ks) (.ref a)
inductive KeyVs (H : Hp) : List NestedKey → List V → Prop
  | nil : KeyVs H [] []
  | cons {k : NestedKey} {x : V} {ks : List NestedKey} {xs : List V} : KeyV H k x → KeyVs H ks xs → KeyVs H (k :: ks) (x :: xs)
end
mutual
theorem KeyV.keep {H H' : Hp} (z : ∀ c xs, H c = some (.tup xs) → H' c = some (.tup xs)) : ∀ {k : NestedKey} {x : V}, KeyV H k x → KeyV H' k x
  | _, _, .num i => .num i
  | _, _, .text s => .text s
  | _, _, .tup h t => .tup (z _ _ h) (KeyVs.keep z t)
theorem KeyVs.keep {H H' : Hp} (z : ∀ c xs, H c = some (.tup xs) → H' c = some (.tup xs)) : ∀ {k : List NestedKey} {x : List V}, KeyVs H k x → KeyVs H' k x
  | _, _, .nil => .nil
  | _, _, .cons h t => .cons (KeyV.keep z h) (KeyVs.keep z t)
end
theorem KeyV.ex {H H' : Hp} {k : NestedKey} {x : V} (h : KeyV H k x) (e : Ex H H') : KeyV H' k x := h.keep fun c xs z => e c _ z
section
variable {P : Program} {w : World} {H : Hp} {h : Heap}
mutual
theorem KeyV.nested (ok : HOk P w H h) : ∀ {k : NestedKey} {x : V} {u : Value}, KeyV H k x → RelV x u → NestedIs h k u
  | _, _, _, .num i, r => by obtain ⟨tk, rfl⟩ := r; exact .int i tk
  | _, _, _, .text s, r => by obtain ⟨tk, rfl⟩ := r; exact .text s tk
  | _, _, _, .tup (a := a) (xs := xs) e t, r => by
    obtain rfl := (show _ = Value.ref a from r)
    obtain ⟨_, its, r2, o, h1, h2, n, h3⟩ := (show ObjOk P w H h a (.tup xs) from ok a _ e)
    exact .tup h1 h2 h3 (by simpa using KeyVs.nested ok t r2)
theorem KeyVs.nested (ok : HOk P w H h) : ∀ {ks : List NestedKey} {xs : List V} {us : List Value}, KeyVs H ks xs → Vals xs us → NestedAll h ks us
  | _, _, _, .nil, r => by cases r; exact .nil
  | _, _, _, .cons a t, r => by
    cases r with
    | cons r1 r2 => exact .cons (KeyV.nested ok a r1) (KeyVs.nested ok t r2)
end
theorem KeyV.is {k : NestedKey} {b : Addr} (t : KeyV H k (.ref b)) (d : k.depth ≤ 8) (ok : HOk P w H h) : (nestedKind P w).is h k b := ⟨t.nested ok rfl, d⟩
end
abbrev NE := NestedKey × Addr × V
abbrev NW : List NE → List (NestedKey × Addr × Value) → Prop := Paired fun p q => q.1 = p.1 ∧ q.2.1 = p.2.1 ∧ RelV p.2.2 q.2.2
def lookV (kvs : List NE) (k : NestedKey) : Option V := (kvs.find? fun e => decide (e.1 = k)).map (·.2.2)
def putE (k : NestedKey) (v : V) (e : NE) : NE := if e.1 = k then (e.1, e.2.1, v) else e
def putV (kvs : List NE) (k : NestedKey) (b : Addr) (v : V) : List NE := if (lookV kvs k).isSome = true then kvs.map (putE k v) else kvs ++ [(k, b, v)]
/-- none or some of both -/
theorem NW.look {kvs : List NE} {xs : List (NestedKey × Addr × Value)} (r : NW kvs xs) (k : NestedKey) : RelO (lookV kvs k) ((atKey xs k).map (·.2)) := by
  induction r with
  | nil => exact True.intro
  | @cons e q es qs h t ih =>
    obtain ⟨h1, h2, h3⟩ := h
    by_cases z : e.1 = k
    · have b : atKey (q :: qs) k = some q.2 := by simp [atKey, List.find?_cons, h1, z]
      have c : lookV (e :: es) k = some e.2.2 := by simp [lookV, List.find?_cons, z]
      rw [b, c]
      exact h3
    · have b : atKey (q :: qs) k = atKey qs k := by simp [atKey, List.find?_cons, h1, z]
      have c : lookV (e :: es) k = lookV es k := by simp [lookV, List.find?_cons, z]
      rw [b, c]
      exact ih
theorem NW.some_iff {kvs : List NE} {xs : List (NestedKey × Addr × Value)} (r : NW kvs xs) (k : NestedKey) : (atKey xs k).isSome = (lookV kvs k).isSome := by
  have rl := NW.look r k
  cases q : atKey xs k with
  | none =>
    cases q2 : lookV kvs k with
    | none => rfl
    | some v => rw [q, q2] at rl; exact rl.elim
  | some y =>
    cases q2 : lookV kvs k with
    | none => rw [q, q2] at rl; exact rl.elim
    | some v => rfl
theorem NW.len {kvs : List NE} {xs : List (NestedKey × Addr × Value)} (r : NW kvs xs) : kvs.length = xs.length := Paired.length r
theorem NW.map {kvs : List NE} {xs : List (NestedKey × Addr × Value)} {k : NestedKey} {v : V} {u : Value} (ru : RelV v u) (r : NW kvs xs) : NW (kvs.map (putE k v)) (xs.map (putAt k u)) := by
  induction r with
  | nil => exact .nil
  | @cons e q es qs h t ih =>
    obtain ⟨h1, h2, h3⟩ := h
    refine .cons ?_ ih
    unfold putE putAt
    by_cases z : e.1 = k
    · rw [if_pos z, if_pos (h1.trans z)]; exact ⟨h1, h2, ru⟩
    · rw [if_neg z, if_neg (fun y => z (h1.symm.trans y))]; exact ⟨h1, h2, h3⟩
theorem NW.put {kvs : List NE} {xs : List (NestedKey × Addr × Value)} {k : NestedKey} {b : Addr} {v : V} {u : Value} (r : NW kvs xs) (ru : RelV v u) : NW (putV kvs k b v) (storedH xs k b u) := by
  unfold putV storedH
  rw [NW.some_iff r]
  split
  · exact NW.map ru r
  · exact Paired.snoc r ⟨rfl, rfl, ru⟩
/-- what stands at a -/
def NvR (P : Program) (w : World) (h : Heap) (a : Addr) (kvs : List NE) : Prop := kvs.length ≤ sizeLine ∧ (a == sysModules) = false ∧ ∃ xs : List (NestedKey × Addr × Value), NW kvs xs ∧
  ∃ o es ep, h.get? a = some o ∧ o.ExactDict ∧ o.data = .dict es ep ∧ es.toList = xs.map (entryOfKey (nestedKind P w)) ∧ (xs.map (·.1)).Nodup
def NvO (P : Program) (w : World) (a : Addr) (kvs : List NE) : HO := .ext fun h => NvR P w h a kvs
/-- the keys stand -/
def KeysV (H : Hp) (kvs : List NE) : Prop := ∀ e ∈ kvs, KeyV H e.1 (.ref e.2.1) ∧ e.1.depth ≤ 8
theorem KeysV.keep {H H' : Hp} {kvs : List NE} (h : KeysV H kvs) (z : ∀ c xs, H c = some (.tup xs) → H' c = some (.tup xs)) : KeysV H' kvs := fun e m => ⟨(h e m).1.keep z, (h e m).2⟩
theorem KeysV.ex {H H' : Hp} {kvs : List NE} (h : KeysV H kvs) (e : Ex H H') : KeysV H' kvs := h.keep fun c xs z => e c _ z
theorem KeysV.put {H : Hp} {kvs : List NE} {k : NestedKey} {b : Addr} {v : V} (h : KeysV H kvs) (t : KeyV H k (.ref b)) (d : k.depth ≤ 8) : KeysV H (putV kvs k b v) := by
  intro e m
  unfold putV at m
  split at m
  · obtain ⟨e', m', rfl⟩ := List.mem_map.mp m
    unfold putE
    split
    · exact h e' m'
    · exact h e' m'
  · rcases List.mem_append.mp m with m | m
    · exact h e m
    · rw [List.mem_singleton] at m
      subst m
      exact ⟨t, d⟩
theorem NW.keys {P : Program} {w : World} {H : Hp} {h : Heap} (ok : HOk P w H h) {kvs : List NE} {xs : List (NestedKey × Addr × Value)} (r : NW kvs xs) : KeysV H kvs → ∀ x ∈ xs, (nestedKind P w).is h x.1 x.2.1 := by
  induction r with
  | nil => intro _ x hx; exact nomatch hx
  | @cons e q es qs hq t ih =>
    intro k x hx
    rcases List.mem_cons.mp hx with z | hx
    · subst z
      obtain ⟨h1, h2, _⟩ := hq
      rw [h1, h2]
      exact (k e List.mem_cons_self).1.is (k e List.mem_cons_self).2 ok
    · exact ih (fun e' m => k e' (List.mem_cons_of_mem _ m)) x hx
theorem nv_at {P : Program} {w : World} {H : Hp} {h : Heap} {a : Addr} {kvs : List NE} (ok : HOk P w H h) (e : H a = some (NvO P w a kvs)) (k : KeysV H kvs) :
    kvs.length ≤ sizeLine ∧ (a == sysModules) = false ∧ ∃ xs, NW kvs xs ∧ h.DictOfH (nestedKind P w) a xs := by
  obtain ⟨z, y, xs, r, o, es, ep, h1, h2, h3, h4, h5⟩ := (ok a _ e).1
  exact ⟨z, y, xs, r, o, es, ep, h1, h2, h3, h4, NW.keys ok r k, h5⟩
theorem nv_new {P : Program} {w : World} {H : Hp} {h : Heap} {a : Addr} {kvs : List NE} (R : NvR P w h a kvs) : ObjOk P w H h a (NvO P w a kvs) := by
  have ⟨_, _, _, _, o, _, _, ho, _⟩ := R
  refine ⟨R, ⟨o, ho⟩, fun h1 h2 p k => ?_⟩
  obtain ⟨z, y, xs, r, o, es, ep, g1, g⟩ := p
  exact ⟨z, y, xs, r, o, es, ep, k _ g1, g⟩
theorem nv_type {P : Program} {w : World} {s : Shared} {H : Hp} {a : Addr} {kvs : List NE} (ok : HOk P w H s.heap) (e : H a = some (NvO P w a kvs)) : s.TypeIs (.ref a) "dict" := by
  obtain ⟨_, _, _, _, o, es, ep, h1, h2, _⟩ := (ok a _ e).1
  exact ⟨o, h1, h2.1⟩
section
variable {X : Cx} {pins : List (Addr × Obj)} {σ : L2.St} {H : Hp} {s : Shared} {a b : Addr} {kvs : List NE} {p : NestedKey} {A : Around} {E : Value → Shared → Prop}
theorem nv_stored {v : V} {u : Value} {h' : Heap} {t' : Nat} {xs : List (NestedKey × Addr × Value)} (I : Inv X pins σ H s) (e : H a = some (NvO X.prog X.w a kvs)) (hd : (a == sysModules) = false) (r : NW kvs xs) (ru : RelV v u) (hl : kvs.length < sizeLine)
    (dd' : Heap.DictOfH (nestedKind X.prog X.w) h' a (storedH xs p b u)) (hs : Heap.SameBut a s.heap h') : Inv X pins σ (upd H a (NvO X.prog X.w a (putV kvs p b v))) { heap := h', gens := s.gens, drawn := s.drawn, toks := t', os := s.os } := by
  obtain ⟨q, es, ep, hq, h2, h3, h4, _, h5⟩ := dd'
  refine I.write (x := a) (e := a) (by rw [e]; exact True.intro) (.inl rfl) (fun c u hc y => (hs.2 c hc).trans y) ⟨q, hq⟩ (nv_new ⟨?_, hd, _, NW.put r ru, q, es, ep, hq, h2, h3, h4, h5⟩)
  unfold putV
  split
  · rw [List.length_map]; omega
  · rw [List.length_append, List.length_singleton]; omega
theorem nv_in {Q : Value → Shared → Prop} (hu : A.units + 9 < cLine) (I : Inv X pins σ H s) (e : H a = some (NvO X.prog X.w a kvs)) (k : KeysV H kvs) (kb : KeyV H p (.ref b)) (dp : p.depth ≤ 8)
    (h : ∀ s', Inv X pins σ H s' → Q (.bool (lookV kvs p).isSome) s') : wpAny (model X.prog X.w) A (compareOp .In (.ref b) (.ref a)) Q E s := by
  obtain ⟨z, hd, xs, r, dd⟩ := nv_at I.hok e k
  refine wpAny_in_heap (knd := nestedKind X.prog X.w) (show A.in1.units + 8 < cLine by rw [Around.in1_units]; omega) (kb.is dp I.hok) hd dd ?_
  rw [NW.some_iff r]
  exact h _ (I.tok _)
theorem nv_notin {Q : Value → Shared → Prop} (hu : A.units + 9 < cLine) (I : Inv X pins σ H s) (e : H a = some (NvO X.prog X.w a kvs)) (k : KeysV H kvs) (kb : KeyV H p (.ref b)) (dp : p.depth ≤ 8)
    (h : ∀ s', Inv X pins σ H s' → Q (.bool (!(lookV kvs p).isSome)) s') : wpAny (model X.prog X.w) A (compareOp .NotIn (.ref b) (.ref a)) Q E s := by
  obtain ⟨z, hd, xs, r, dd⟩ := nv_at I.hok e k
  refine wpAny_notIn_heap (knd := nestedKind X.prog X.w) (show A.in1.units + 8 < cLine by rw [Around.in1_units]; omega) (kb.is dp I.hok) hd dd ?_
  rw [NW.some_iff r]
  exact h _ (I.tok _)
theorem nv_set {v : V} {u : Value} {Q : Unit → Shared → Prop} (hu : A.units + 9 < cLine) (I : Inv X pins σ H s) (e : H a = some (NvO X.prog X.w a kvs)) (k : KeysV H kvs) (kb : KeyV H p (.ref b)) (dp : p.depth ≤ 8) (hl : kvs.length < sizeLine) (ru : RelV v u)
    (h : ∀ s', Inv X pins σ (upd H a (NvO X.prog X.w a (putV kvs p b v))) s' → Q () s') : wpAny (model X.prog X.w) A (setItem (.ref a) (.ref b) u) Q E s := by
  obtain ⟨z, hd, xs, r, dd⟩ := nv_at I.hok e k
  have hz : xs.length ≤ sizeLine := by rw [← NW.len r]; exact z
  exact wpAny_setItem_heap (hsz := hz) (knd := nestedKind X.prog X.w) (show A.in1.units + 8 < cLine by rw [Around.in1_units]; omega) (kb.is dp I.hok) dd fun h' dd' hs => h _ (nv_stored I e hd r ru hl dd' hs)
end
/-! readings and rules -/
/-- {} -/
def tNNew (P : Program) (w : World) : TE := fun σ H Q => ∀ d, H d = none → Q (.ref d) (upd H d (NvO P w d []))
/-- d.setdefault(k, v) -/
def tNSetd (P : Program) (w : World) (td : TE) (t : TA) : TE := fun σ H Q => td σ H fun x H1 => ∃ a kvs0, x = V.ref a ∧ H1 a = some (NvO P w a kvs0) ∧ t σ H1 fun xs H2 => ∃ b z kvs k, xs = [.ref b, z] ∧ H2 a = some (NvO P w a kvs) ∧ KeysV H2 kvs ∧ KeyV H2 k (.ref b) ∧ k.depth ≤ 8 ∧ kvs.length < sizeLine ∧
  (∀ v, lookV kvs k = some v → Q v H2) ∧ (lookV kvs k = none → Q z (upd H2 a (NvO P w a (putV kvs k b z))))
/-- the view of a dict's values -/
def VwO (q a : Addr) : HO := .ext fun h => h.IsValuesView q a
/-- d.values() -/
def tNVals (P : Program) (w : World) (td : TE) : TE := fun σ H Q => td σ H fun x H1 => ∃ a kvs, x = V.ref a ∧ H1 a = some (NvO P w a kvs) ∧ ∀ q, H1 q = none → Q (.ref q) (upd H1 q (VwO q a))
/-- list(d.values()) -/
def rListVw (P : Program) (w : World) : List V → Hp → VK → Prop := fun xs H Q => ∃ q a kvs, xs = [.ref q] ∧ H q = some (VwO q a) ∧ H a = some (NvO P w a kvs) ∧ ∀ p, H p = none → Q (.ref p) (upd H p (.lst (kvs.map (·.2.2))))
theorem NW.vals {kvs : List NE} {xs : List (NestedKey × Addr × Value)} (r : NW kvs xs) : Vals (kvs.map (·.2.2)) (xs.map (·.2.2)) := by
  induction r with
  | nil => exact .nil
  | cons h t ih => exact .cons h.2.2 ih
section
variable {X : Cx} {o i e value : Expr} {es : List Expr} {pos apos cpos : Pos} {td ty tv tk : TE} {t : TA}
theorem pe_nnew : PE X (.Dict [] [] pos) (tNNew X.prog X.w) := by
  refine ⟨fun pins s σ H Q I h => ?_⟩
  have hn := I.hok.fresh (Nat.le_refl s.heap.objs.size)
  have hb := I.big
  have R0 : NvR X.prog X.w (s.heap.push { cls := .type "dict", data := .dict #[] }) s.heap.objs.size [] :=
    ⟨Nat.zero_le _, beq_eq_false_iff_ne.mpr (Ne.symm (Nat.ne_of_lt hb)), [], .nil, _, #[], 0, Heap.get?_push_size _ rfl, ⟨rfl, rfl, rfl⟩, rfl, rfl, List.nodup_nil⟩
  have I1 := I.laid (a := s.heap.objs.size) (o := NvO X.prog X.w s.heap.objs.size []) (h' := s.heap.push { cls := .type "dict", data := .dict #[] }) (t' := s.toks) (fun _ _ q => Heap.get?_push_of_some _ q) (Nat.le_refl _) (nv_new R0)
  exact wpAny_Dict_empty ⟨.ref s.heap.objs.size, _, I1, rfl, h _ hn⟩
theorem nv_bare {P : Program} {w : World} {H : Hp} {h : Heap} {a : Addr} {kvs : List NE} (ok : HOk P w H h) (e : H a = some (NvO P w a kvs)) : ∀ a', Value.ref a = Value.ref a' → ∃ ob, h.get? a' = some ob ∧ ob.dict = none := by
  intro a' q
  injection q with q
  subst q
  obtain ⟨_, _, _, _, o, es, ep, h1, h2, _⟩ := (ok a _ e).1
  exact ⟨o, h1, h2.2.1⟩
theorem pe_nsetd (hu : X.A.units + 9 < cLine) (ho : PE X o td) (ha : PA X (e :: es) t) (hb : attributeBase o "setdefault" X.env (eval o X.env) = eval o X.env := by rfl)
    (hf : (((backTo cpos (starEach (e :: es) X.env)).all (! ·.1)) && (backToKw cpos (keywordEach [] X.env)).all (·.1.isSome) && decide ((e :: es).length + ([] : List (Option Str × Expr)).length + (if ([] : List (Option Str × Expr)).isEmpty = true then 0 else 1) < 30)) = true := by rfl)
    (hl : (apos.endLine == cpos.line) = true := by rfl) (hst : starEach (e :: es) X.env = (false, eval e X.env) :: starEach es X.env := by rfl) (hpl : (backTo cpos (starEach es X.env)).any (·.1) = false := by rfl) :
    PE X (.Call (.Attribute o "setdefault" apos) (e :: es) [] cpos) (tNSetd X.prog X.w td t) := by
  refine ⟨fun pins s σ H Q I h => ?_⟩
  refine wpAny_Call_method hb hf hl PySem.F.plainAttrs_dict PySem.F.slot_dict_setdefault PySem.F.type_dict_setdefault (thn (ho.run pins s σ H _ I h) fun u s1 z1 => ?_)
  obtain ⟨x, H1, I1, rx, a, kvs0, ex, g0, q1⟩ := z1
  subst ex
  obtain rfl : u = Value.ref a := rx
  refine ⟨nv_type I1.hok g0, nv_bare I1.hok g0, callWith_method1 (thn (ha.run cpos pins s1 σ H1 _ I1 q1) fun us s2 z2 => ?_) hst hpl⟩
  obtain ⟨xs, H2, I2, rs, b, z, kvs, k, exs, g, kk, kb, dp, few, q2, q3⟩ := z2
  subst exs
  cases rs with
  | @cons _ u1 _ _ r1 r2 =>
  cases r2 with
  | @cons _ u2 _ _ r3 r4 =>
  cases r4
  obtain rfl : u1 = Value.ref b := r1
  obtain ⟨zz, hd, xs, r, dd⟩ := nv_at I2.hok g kk
  have hz : xs.length ≤ sizeLine := by rw [← NW.len r]; exact zz
  refine call_setdefault_heap (hsz := hz) (knd := nestedKind X.prog X.w) (show X.A.in1.units + 8 < cLine by rw [Around.in1_units]; omega) (kb.is dp I2.hok) hd dd (fun y hy => ?_) (fun hn h' dd' hs => ?_)
  · have rl := NW.look r k
    rw [hy] at rl
    cases q : lookV kvs k with
    | none => rw [q] at rl; exact rl.elim
    | some v =>
      rw [q] at rl
      exact ⟨v, H2, I2.tok _, rl, q2 v q⟩
  · have hn2 : lookV kvs k = none := by
      have := NW.some_iff r k
      rw [hn] at this
      cases q : lookV kvs k with
      | none => rfl
      | some v => rw [q] at this; cases this
    exact ⟨z, _, nv_stored I2 g hd r r3 few dd' hs, r3, q3 hn2⟩
theorem pe_nvals (ho : PE X o td) (hb : attributeBase o "values" X.env (eval o X.env) = eval o X.env := by rfl) (hl : (apos.endLine == cpos.line) = true := by rfl) : PE X (.Call (.Attribute o "values" apos) [] [] cpos) (tNVals X.prog X.w td) := by
  refine ⟨fun pins s σ H Q I h => ?_⟩
  refine wpAny_Call_method hb rfl hl PySem.F.plainAttrs_dict PySem.F.slot_dict_values PySem.F.type_dict_values (thn (ho.run pins s σ H _ I h) fun u s1 z1 => ?_)
  obtain ⟨x, H1, I1, rx, a, kvs, ex, g, q1⟩ := z1
  subst ex
  obtain rfl : u = Value.ref a := rx
  have hn := I1.hok.fresh (Nat.le_refl s1.heap.objs.size)
  obtain ⟨z, y, xs, r, ob, es, ep, h1, h2, h3, h4, h5⟩ := (I1.hok a _ g).1
  refine ⟨nv_type I1.hok g, nv_bare I1.hok g, callWith_method0 (call_meetsIn PySem.F.slot_dict_values (nv_type I1.hok g) PySem.F.entry_dict_values (PySem.F.args_dict_values_1 _) (meets_dict_values_raw a y) ⟨⟨es, ep, ob, h1, h2, h3⟩, ?_⟩)⟩
  refine ⟨.ref s1.heap.objs.size, _, I1.laid (a := s1.heap.objs.size) (o := VwO s1.heap.objs.size a) (t' := s1.toks) (fun _ _ q => Heap.get?_push_of_some _ q) (Nat.le_refl _) ?_, rfl, q1 _ hn⟩
  refine ⟨⟨_, Heap.get?_push_size _ rfl, rfl, rfl⟩, ⟨_, Heap.get?_push_size _ rfl⟩, fun h1 h2 p k => ?_⟩
  obtain ⟨o, g1, g2⟩ := p
  exact ⟨o, k _ g1, g2⟩
theorem cr_listVw (hh : X.A.handled = none) : CallR X (.type "list") (rListVw X.prog X.w) := by
  rintro pins s σ H xs us Q I rs ⟨q, a, kvs, exs, hq, g, q1⟩
  subst exs
  cases rs with
  | @cons _ u1 _ _ r1 r2 =>
  cases r2
  obtain rfl : u1 = Value.ref q := r1
  have hn := I.hok.fresh (Nat.le_refl s.heap.objs.size)
  obtain ⟨z, y, xs, r, ob, es, ep, h1, h2, h3, h4, h5⟩ := (I.hok a _ g).1
  have vw := (I.hok q _ hq).1
  have en : es.size = xs.length := by
    have := congrArg List.length h4
    rw [List.length_map, Array.length_toList] at this
    exact this
  have len := NW.len r
  refine W.kdl_call (KdlSrc.rawValues (es := es) (ep := ep) (d := a)) hh ⟨vw, ob, h1, h2, h3⟩ (by omega) fun h' tk acc c st hl it => ?_
  have ea : acc.toList = xs.map (·.2.2) := by
    refine List.ext_getElem? fun j => ?_
    rw [Array.getElem?_toList, List.getElem?_map]
    cases hj : acc[j]? with
    | none =>
      have : xs[j]? = none := by
        rw [List.getElem?_eq_none_iff]
        have := Array.getElem?_eq_none_iff.mp hj
        have := it.1
        omega
      rw [this]; rfl
    | some v =>
      obtain ⟨hi, rfl⟩ := it.2 j v hj
      have hx := List.getElem?_eq_getElem (l := xs) (i := j) (by omega)
      have e2 : es.toList[j]? = (xs.map (entryOfKey (nestedKind X.prog X.w)))[j]? := by rw [h4]
      rw [List.getElem?_map, hx, Array.getElem?_toList, Array.getElem?_eq_getElem hi] at e2
      rw [hx]
      have e2 := Option.some.inj e2
      rw [e2]
      rfl
  refine ⟨.ref s.heap.objs.size, _, I.laid (a := s.heap.objs.size) (o := .lst (kvs.map (·.2.2))) (t' := tk) st (Nat.le_refl _) ?_, rfl, q1 _ hn⟩
  refine ⟨by rw [List.length_map]; exact z, acc.toList, c, by rw [ea]; exact r.vals, by rw [hl]⟩
end
end Mine
namespace Mine
open PySem PySem.Spec PyProof.Rows L2
open Evl (Ex)
/-! what is walked is a list or a tuple -/
def iOr (w1 w2 : TI) : TI := fun σ H R => w1 σ H R ∨ w2 σ H R
theorem pi_or {X : Cx} {tg l : Expr} {w1 w2 : TI} (h1 : PI X tg l w1) (h2 : PI X tg l w2) : PI X tg l (iOr w1 w2) :=
  ⟨fun pins s σ H R I h => h.elim (h1.run pins s σ H R I) (h2.run pins s σ H R I)⟩
def SqA (K : PySem.W.Frag) (H : Hp) (a : Addr) (xs : List V) : Prop := SqL K H a xs ∨ SqT K H a xs
theorem SqA.ex {K : PySem.W.Frag} {H H' : Hp} {a : Addr} {xs : List V} (h : SqA K H a xs) (e : Ex H H') : SqA K H' a xs := h.elim (fun h => Or.inl (Evl.ex_l e h)) fun h => Or.inr (Evl.ex_t e h)
theorem iOr_for {K : PySem.W.Frag} {te : TE} {g : TG} {tb : TS} {D : Ends} {σ : L2.St} {H H0 : Hp} {a : Addr} {xs : List V} (hv : ∀ k : VK, k (.ref a) H → te σ H k) (hS : SqA K H0 a xs) (e0 : Ex H0 H) (Pv : Nat → L2.St → Hp → Prop) (h0 : Pv 0 σ H) (hl : ∀ i σ' H', i ≤ xs.length → Pv i σ' H' → Ex H0 H')
    (hs : ∀ i x σ' H', xs[i]? = some x → Pv i σ' H' → g x σ' H' fun σ2 H2 => tb { D with nx := Pv (i + 1), ct := Pv (i + 1), bk := D.nx } σ2 H2) (hd : ∀ σ' H', Pv xs.length σ' H' → D.nx σ' H') : iOr (iList K te) (iTup K te) σ H (fun it H => forK g tb D σ it H) := by
  rcases hS with hS | hS
  · exact Or.inl (hv _ ⟨a, rfl, ⟨_, Evl.ex_l e0 hS⟩, forK_list Pv h0 (fun i σ' H' l p => Evl.ex_l (hl i σ' H' l p) hS) hs hd⟩)
  · exact Or.inr (hv _ ⟨a, rfl, ⟨_, Evl.ex_t e0 hS⟩, forK_tup Pv h0 (fun i σ' H' l p => Evl.ex_t (hl i σ' H' l p) hS) hs hd⟩)
theorem iOr_lc {K : PySem.W.Frag} {ti : TE} {g : TG} {tt : TT} {te : TE} {vs : List Nat} {Q : VK} {σ : L2.St} {H : Hp} {a : Addr} {xs : List V} (hv : ∀ k : VK, k (.ref a) H → ti σ H k) (hS : SqA K H a xs) (f : V → Option V) (len : xs.length < sizeLine) (t : ∀ x ∈ xs, turnR g tt te vs σ x (f x) H)
    (q : ∀ D H', H D = none → Ex H H' → H' D = some (.lst (xs.filterMap f)) → Q (.ref D) H') : iOr (iList K ti) (iTup K ti) σ H (fun it H => lcR g tt te vs σ Q it H) := by
  rcases hS with hS | hS
  · exact Or.inl (hv _ ⟨a, rfl, ⟨_, hS⟩, lcR_list f hS len t q⟩)
  · exact Or.inr (hv _ ⟨a, rfl, ⟨_, hS⟩, lcR_tup f hS len t q⟩)
/-! what never changes -/
def Fx : HO → Prop
  | .tup _ => True
  | .ins _ _ _ => True
  | _ => False
theorem upd_fx {H : Hp} {d : Addr} {o0 o1 : HO} (hd : H d = some o0) (n : ¬ Fx o0) : ∀ c o, H c = some o → Fx o → upd H d o1 c = some o := fun c o z f => (upd_ne (fun e => by subst e; rw [hd] at z; cases z; exact n f)).trans z
theorem EdAt.fx {H H' : Hp} {y : V} {e : Edge} (h : EdAt H y e) (k : ∀ c o, H c = some o → Fx o → H' c = some o) : EdAt H' y e := let ⟨a, r, z⟩ := h; ⟨a, r, k _ _ z True.intro⟩
theorem HgAt.fx {K : PySem.W.Frag} {H H' : Hp} {b : Addr} {es : List Edge} (h : HgAt K H b es) (k : ∀ c o, H c = some o → Fx o → H' c = some o) : HgAt K H' b es :=
  let ⟨dx, t, xs, h1, h2, h3⟩ := h; ⟨dx, t, xs, k _ _ h1 True.intro, k _ _ h2 True.intro, h3.imp fun y c q => q.fx k⟩
theorem DuH.fx {H H' : Hp} {y : V} {es : List Edge} (h : DuH H y es) (k : ∀ c o, H c = some o → Fx o → H' c = some o) : DuH H' y es :=
  let ⟨d, t, xs, r, h1, h2, h3⟩ := h; ⟨d, t, xs, r, k _ _ h1 True.intro, k _ _ h2 True.intro, h3.imp fun y c q => q.fx k⟩
/-- a value that is a board -/
def HgV (K : PySem.W.Frag) (H : Hp) (y : V) (es : List Edge) : Prop := ∃ b, y = .ref b ∧ HgAt K H b es
theorem HgV.ex {K : PySem.W.Frag} {H H' : Hp} {y : V} {es : List Edge} (h : HgV K H y es) (e : Ex H H') : HgV K H' y es := let ⟨b, r, z⟩ := h; ⟨b, r, z.ex e⟩
theorem HgV.fx {K : PySem.W.Frag} {H H' : Hp} {y : V} {es : List Edge} (h : HgV K H y es) (k : ∀ c o, H c = some o → Fx o → H' c = some o) : HgV K H' y es := let ⟨b, r, z⟩ := h; ⟨b, r, z.fx k⟩
abbrev BsH (K : PySem.W.Frag) (H : Hp) (ys : List V) (l : List (List Edge)) : Prop := AllAt (HgV K) H ys l
abbrev DsH (H : Hp) (ys : List V) (l : List (List Edge)) : Prop := AllAt DuH H ys l
/-! the knots that hang, and what is left -/
open Classical in
theorem hang_keptM {es : List Edge} {k : Nat} (h : Hangs es k) : Hangs (keptE es) k := by
  have in_ : ∀ e : Edge, e ∈ es → Hangs es e.1 → e ∈ keptE es := fun e m z => by
    unfold keptE
    exact List.mem_filter.mpr ⟨m, decide_eq_true z⟩
  induction h with
  | ground => exact .ground
  | up m z ih => exact .up (in_ _ m z) ih
  | down m z ih => exact .down (in_ _ m (.down m z)) ih
theorem kept_okM {es : List Edge} (ok : ∀ e ∈ es, OkE e) : ∀ e ∈ keptE es, OkE e := fun e m => ok e (by unfold keptE at m; exact (List.mem_filter.mp m).1)
theorem kept_lenM (es : List Edge) : (keptE es).length ≤ es.length := by unfold keptE; exact List.length_filter_le _ _
open Classical in
theorem kept_keptM (es : List Edge) : keptE (keptE es) = keptE es := by
  have h : ∀ e ∈ keptE es, Hangs (keptE es) e.1 := fun e m => by
    unfold keptE at m
    exact hang_keptM (of_decide_eq_true (List.mem_filter.mp m).2)
  generalize keptE es = l at *
  unfold keptE
  exact List.filter_eq_self.mpr fun e m => decide_eq_true (h e m)
/-! moves -/
def oneC (s : Str) : Str := if s = "left" then "blue" else "red"
def colH (s c : Str) : Bool := decide (c = "green") || decide (c = oneC s)
noncomputable def cutE (es : List Edge) (i : Nat) : List Edge := keptE (es.eraseIdx i)
open Classical in
noncomputable def stepM (s : Str) (es : List Edge) (acc : List (List Edge)) (i : Nat) : List (List Edge) :=
  if (es[i]?.map fun e => colH s e.2.2) = some true then (if cutE es i ∈ acc then acc else acc ++ [cutE es i]) else acc
noncomputable def mvsTo (s : Str) (es : List Edge) : Nat → List (List Edge)
  | 0 => []
  | n + 1 => stepM s es (mvsTo s es n) n
noncomputable def mvsE (s : Str) (es : List Edge) : List (List Edge) := mvsTo s es es.length
theorem step_in {s : Str} {es : List Edge} {acc : List (List Edge)} {i : Nat} {e : Edge} (h : es[i]? = some e) (c : colH s e.2.2 = true) (m : cutE es i ∈ acc) : stepM s es acc i = acc := by
  unfold stepM
  rw [h, Option.map_some, c, if_pos rfl, if_pos m]
theorem step_new {s : Str} {es : List Edge} {acc : List (List Edge)} {i : Nat} {e : Edge} (h : es[i]? = some e) (c : colH s e.2.2 = true) (m : cutE es i ∉ acc) : stepM s es acc i = acc ++ [cutE es i] := by
  unfold stepM
  rw [h, Option.map_some, c, if_pos rfl, if_neg m]
theorem step_no {s : Str} {es : List Edge} {acc : List (List Edge)} {i : Nat} {e : Edge} (h : es[i]? = some e) (c : colH s e.2.2 = false) : stepM s es acc i = acc := by
  unfold stepM
  rw [h, Option.map_some, c, if_neg (by decide)]
theorem step_or (s : Str) (es : List Edge) (acc : List (List Edge)) (i : Nat) : stepM s es acc i = acc ∨ stepM s es acc i = acc ++ [cutE es i] := by
  unfold stepM
  split
  · split
    · exact Or.inl rfl
    · exact Or.inr rfl
  · exact Or.inl rfl
theorem mvsTo_len (s : Str) (es : List Edge) : ∀ n, (mvsTo s es n).length ≤ n
  | 0 => Nat.le_refl _
  | n + 1 => by
    have ih := mvsTo_len s es n
    unfold mvsTo
    rcases step_or s es (mvsTo s es n) n with h | h <;> rw [h]
    · omega
    · rw [List.length_append, List.length_singleton]; omega
theorem mvsTo_mem {s : Str} {es : List Edge} {m : List Edge} : ∀ {n}, m ∈ mvsTo s es n → ∃ i, i < n ∧ m = cutE es i
  | 0, h => nomatch h
  | n + 1, h => by
    unfold mvsTo at h
    rcases step_or s es (mvsTo s es n) n with z | z <;> rw [z] at h
    · obtain ⟨i, hi, r⟩ := mvsTo_mem h
      exact ⟨i, by omega, r⟩
    · rcases List.mem_append.mp h with h | h
      · obtain ⟨i, hi, r⟩ := mvsTo_mem h
        exact ⟨i, by omega, r⟩
      · exact ⟨n, by omega, List.mem_singleton.mp h⟩
theorem mvsE_mem {s : Str} {es m : List Edge} (ok : ∀ e ∈ es, OkE e) (h : m ∈ mvsE s es) : (∀ e ∈ m, OkE e) ∧ m.length < es.length ∧ keptE m = m := by
  obtain ⟨i, hi, rfl⟩ := mvsTo_mem h
  unfold cutE
  refine ⟨kept_okM fun e m => ok e (List.mem_of_mem_eraseIdx m), ?_, kept_keptM _⟩
  have := kept_lenM (es.eraseIdx i)
  rw [List.length_eraseIdx, if_pos hi] at this
  omega
theorem mvsE_len (s : Str) (es : List Edge) : (mvsE s es).length ≤ es.length := mvsTo_len s es es.length
theorem mvsTo_mono {s : Str} {es : List Edge} : ∀ {n m : Nat}, n ≤ m → (mvsTo s es n).length ≤ (mvsTo s es m).length := by
  intro n m h
  induction h with
  | refl => exact Nat.le_refl _
  | @step m h ih =>
    show _ ≤ (stepM s es (mvsTo s es m) m).length
    rcases step_or s es (mvsTo s es m) m with z | z <;> rw [z]
    · exact ih
    · rw [List.length_append]; omega
/-- one side can move where there is an edge -/
theorem some_move {es : List Edge} (ok : ∀ e ∈ es, OkE e) (h1 : (mvsE "left" es).length = 0) (h2 : (mvsE "right" es).length = 0) : es.length = 0 := by
  cases es with
  | nil => rfl
  | cons e es =>
    exfalso
    have one : ∀ s, colH s e.2.2 = true → (mvsE s (e :: es)).length ≠ 0 := by
      intro s c
      have q := mvsTo_mono (s := s) (es := e :: es) (n := 1) (m := (e :: es).length) (by rw [List.length_cons]; omega)
      have z : mvsTo s (e :: es) 1 = [cutE (e :: es) 0] := step_new (acc := []) (i := 0) rfl c (by intro m; cases m)
      rw [z] at q
      have q : 1 ≤ (mvsE s (e :: es)).length := q
      omega
    rcases (ok e List.mem_cons_self).2.2 with c | c | c
    · exact one "left" (by rw [c]; decide +kernel) h1
    · exact one "left" (by rw [c]; decide +kernel) h1
    · exact one "right" (by rw [c]; decide +kernel) h2
/-! edges as data -/
def edQ (e : Edge) : PyData := .tuple [.int (e.1 : Int), .int (e.2.1 : Int), .str e.2.2]
def dueQ (es : List Edge) : PyData := .tuple [.str "hedge", .tuple (es.map edQ)]
theorem EdAt.dq {K : PySem.W.Frag} {H : Hp} {y : V} {c : Edge} (h : EdAt H y c) : Dp K H y (edQ c) := by
  obtain ⟨a, rfl, ha⟩ := h
  exact .tup (k_st ha) (.cons (.int _) (.cons (.int _) (.cons (.str _) .nil)))
theorem EsAt.dq {K : PySem.W.Frag} {H : Hp} : ∀ {xs : List V} {cs : List Edge}, EsAt H xs cs → DpAll K H xs (cs.map edQ)
  | [], [], _ => .nil
  | y :: ys, r :: rs, h => .cons h.tail.1.dq (EsAt.dq h.tail.2)
  | [], _ :: _, h => absurd h.1 (by simp)
  | _ :: _, [], h => absurd h.1 (by simp)
theorem DuH.dq {K : PySem.W.Frag} {H : Hp} {y : V} {es : List Edge} (h : DuH H y es) : Dp K H y (dueQ es) := by
  obtain ⟨d, t, xs, rfl, hd, ht, R⟩ := h
  exact .tup (k_st hd) (.cons (.str _) (.cons (.tup (k_st ht) R.dq) .nil))
theorem DsH.dq {K : PySem.W.Frag} {H : Hp} : ∀ {xs : List V} {cs : List (List Edge)}, DsH H xs cs → DpAll K H xs (cs.map dueQ)
  | [], [], _ => .nil
  | y :: ys, r :: rs, h => .cons h.tail.1.dq (DsH.dq h.tail.2)
  | [], _ :: _, h => absurd h.1 (by simp)
  | _ :: _, [], h => absurd h.1 (by simp)
theorem deepQ (e : Edge) : (edQ e).depth = 1 := by
  unfold edQ
  simp only [PyData.depth, PyData.depthAll]; rfl
theorem col_strQ {s : Str} (h : OkC3 s) : PyData.strOk s = true := by
  rcases h with rfl | rfl | rfl <;> decide +kernel
theorem layQ {e : Edge} (h : OkE e) : (edQ e).canLay0 = true := by
  unfold edQ
  simp only [PyData.canLay0, PyData.canLayAll0, col_strQ h.2.2]; rfl
theorem eqvQ (e d : Edge) : (edQ e).eqv (edQ d) = decide (e = d) := by
  obtain ⟨a, b, c⟩ := e
  obtain ⟨a', b', c'⟩ := d
  unfold edQ
  simp only [PyData.eqv, PyData.eqvAll, Bool.and_true]
  by_cases h1 : a = a' <;> by_cases h2 : b = b' <;> by_cases h3 : c = c' <;> simp [h1, h2, h3]
  all_goals omega
theorem eqvQs : ∀ as bs : List Edge, PyData.eqvAll (as.map edQ) (bs.map edQ) = decide (as = bs)
  | [], [] => by simp only [List.map_nil, PyData.eqvAll]; rfl
  | a :: as, b :: bs => by
    simp only [List.map_cons, PyData.eqvAll, eqvQs as bs, eqvQ]
    by_cases h1 : a = b <;> by_cases h2 : as = bs <;> simp [h1, h2]
  | [], b :: bs => by simp [PyData.eqvAll]
  | a :: as, [] => by simp [PyData.eqvAll]
theorem eqvD (as bs : List Edge) : (dueQ as).eqv (dueQ bs) = decide (as = bs) := by
  unfold dueQ
  simp only [PyData.eqv, PyData.eqvAll, eqvQs, Bool.and_true]
  by_cases h : as = bs <;> simp [h]
theorem deepQs : ∀ rs : List Edge, PyData.depthAll (rs.map edQ) ≤ 1
  | [] => by simp only [List.map_nil, PyData.depthAll]; decide
  | g :: rs => by
    have h := deepQs rs
    simp only [List.map_cons, PyData.depthAll, deepQ]
    omega
theorem layQs : ∀ rs : List Edge, (∀ e ∈ rs, OkE e) → PyData.canLayAll0 (rs.map edQ) = true
  | [], _ => rfl
  | g :: rs, h => by
    simp only [List.map_cons, PyData.canLayAll0, layQ (h g List.mem_cons_self), layQs rs fun r m => h r (List.mem_cons_of_mem _ m)]
    rfl
theorem deepD (rs : List Edge) : (dueQ rs).depth ≤ 3 := by
  have h := deepQs rs
  unfold dueQ
  simp only [PyData.depth, PyData.depthAll]
  omega
theorem layD {rs : List Edge} (h : ∀ e ∈ rs, OkE e) : (dueQ rs).canLay0 = true := by
  unfold dueQ
  simp only [PyData.canLay0, PyData.canLayAll0, layQs rs h, show PyData.strOk "hedge" = true by decide +kernel]
  rfl
theorem shapedD {rs : List Edge} (h : ∀ e ∈ rs, OkE e) : SeqAt.shaped (dueQ rs) = true := by
  have := deepD rs
  unfold SeqAt.shaped
  rw [layD h, decide_eq_true (by omega)]
  rfl
theorem deepDs : ∀ rs : List (List Edge), PyData.depthAll (rs.map dueQ) ≤ 3
  | [] => by simp only [List.map_nil, PyData.depthAll]; decide
  | g :: rs => by
    have h := deepDs rs
    have := deepD g
    simp only [List.map_cons, PyData.depthAll]
    omega
theorem layDs : ∀ rs : List (List Edge), (∀ l ∈ rs, ∀ e ∈ l, OkE e) → PyData.canLayAll0 (rs.map dueQ) = true
  | [], _ => rfl
  | g :: rs, h => by
    simp only [List.map_cons, PyData.canLayAll0, layD (h g List.mem_cons_self), layDs rs fun r m => h r (List.mem_cons_of_mem _ m)]
    rfl
theorem shapedDs {rs : List (List Edge)} (h : ∀ l ∈ rs, ∀ e ∈ l, OkE e) : SeqAt.shaped (.list (rs.map dueQ)) = true := by
  have hd : (PyData.list (rs.map dueQ)).depth ≤ 64 := by
    have := deepDs rs
    simp only [PyData.depth]; omega
  have hl : (PyData.list (rs.map dueQ)).canLay0 = true := by simp only [PyData.canLay0]; exact layDs rs h
  unfold SeqAt.shaped
  rw [hl, decide_eq_true hd]
  rfl
theorem k_notInDu {K : PySem.W.Frag} {H : Hp} {Q : VK} {y : V} {a : Addr} {ys : List V} {es : List Edge} {l : List (List Edge)} (h1 : DuH H y es) (h2 : SqL K H a ys) (R : DsH H ys l) (ok1 : ∀ e ∈ es, OkE e) (ok : ∀ l' ∈ l, ∀ e ∈ l', OkE e) (q : ∀ b : Bool, (b = true ↔ es ∉ l) → Q (.bl b) H) : rNotInD K y (.ref a) H Q := by
  refine ⟨_, _, h1.dq, .lst h2 R.dq, shapedD ok1, shapedDs ok, q _ ?_⟩
  rw [Bool.not_eq_true', ← Bool.not_eq_true, List.any_eq_true]
  refine not_congr ⟨?_, fun m => ⟨_, List.mem_map.mpr ⟨_, m, rfl⟩, by rw [eqvD]; exact decide_eq_true rfl⟩⟩
  rintro ⟨z, m, e⟩
  obtain ⟨l', m', rfl⟩ := List.mem_map.mp m
  rw [eqvD] at e
  rw [← of_decide_eq_true e]
  exact m'
/-! edges as keys -/
def edK (e : Edge) : NestedKey := .tup [.num (e.1 : Int), .num (e.2.1 : Int), .text e.2.2]
def keyH (es : List Edge) : NestedKey := .tup [.text "hedge", .tup (es.map edK)]
theorem edK_inj {a b : Edge} (h : edK a = edK b) : a = b := by
  obtain ⟨a1, a2, a3⟩ := a
  obtain ⟨b1, b2, b3⟩ := b
  unfold edK at h
  simp only [NestedKey.tup.injEq, List.cons.injEq, NestedKey.num.injEq, NestedKey.text.injEq, and_true] at h
  obtain ⟨h1, h2, h3⟩ := h
  have h1 : a1 = b1 := by omega
  have h2 : a2 = b2 := by omega
  subst h1 h2 h3
  rfl
theorem keyH_inj {a b : List Edge} (h : keyH a = keyH b) : a = b := by
  unfold keyH at h
  simp only [NestedKey.tup.injEq, List.cons.injEq, and_true, true_and] at h
  exact (List.map_inj_right fun _ _ => edK_inj).mp h
theorem edK_deep (l : List Edge) : NestedKey.depthAll (l.map edK) ≤ 1 := by
  induction l with
  | nil => rw [List.map_nil]; simp only [NestedKey.depthAll]; decide
  | cons e l ih =>
    rw [List.map_cons]
    unfold edK at *
    simp only [NestedKey.depthAll, NestedKey.depth] at *
    omega
theorem keyH_deep (l : List Edge) : (keyH l).depth ≤ 8 := by
  have := edK_deep l
  unfold keyH
  simp only [NestedKey.depth, NestedKey.depthAll]
  omega
theorem EsAt.keys {H : Hp} : ∀ {xs : List V} {cs : List Edge}, EsAt H xs cs → KeyVs H (cs.map edK) xs
  | [], [], _ => .nil
  | y :: ys, r :: rs, h => by
    obtain ⟨⟨a, rfl, ha⟩, t⟩ := h.tail
    exact .cons (.tup ha (.cons (.num _) (.cons (.num _) (.cons (.text _) .nil)))) (EsAt.keys t)
  | [], _ :: _, h => absurd h.1 (by simp)
  | _ :: _, [], h => absurd h.1 (by simp)
theorem DuH.key {H : Hp} {y : V} {es : List Edge} (h : DuH H y es) : ∃ d, y = .ref d ∧ KeyV H (keyH es) (.ref d) := by
  obtain ⟨d, t, xs, rfl, hd, ht, R⟩ := h
  exact ⟨d, rfl, .tup hd (.cons (.text _) (.cons (.tup ht R.keys) .nil))⟩
theorem look_keys {kvs : List NE} {acc : List (List Edge)} (h : kvs.map (·.1) = acc.map keyH) (m : List Edge) : lookV kvs (keyH m) = none ↔ m ∉ acc := by
  unfold lookV
  rw [Option.map_eq_none_iff, List.find?_eq_none]
  constructor
  · intro z q
    have : keyH m ∈ kvs.map (·.1) := by rw [h]; exact List.mem_map.mpr ⟨m, q, rfl⟩
    obtain ⟨e, me, ee⟩ := List.mem_map.mp this
    exact z e me (decide_eq_true ee)
  · intro q e me z
    have : e.1 ∈ acc.map keyH := by rw [← h]; exact List.mem_map.mpr ⟨e, me, rfl⟩
    obtain ⟨m', mm, ee⟩ := List.mem_map.mp this
    rw [of_decide_eq_true z] at ee
    rw [keyH_inj ee] at mm
    exact q mm
/-- the tables of colours -/
structure FCUTS (K : PySem.W.Frag) : Prop where
  l : PySem.W.nsIn K (He.ga K "CUTS") "left" = some (some (.ref (kdA K "CUTS" "left"))) ∧ ∀ H, SqT K H (kdA K "CUTS" "left") [.str "blue", .str "green"]
  r : PySem.W.nsIn K (He.ga K "CUTS") "right" = some (some (.ref (kdA K "CUTS" "right"))) ∧ ∀ H, SqT K H (kdA K "CUTS" "right") [.str "red", .str "green"]
theorem eqV_str (d s : Str) : eqV (V.str d) (V.str s) = decide (s = d) := decide_eq_decide.mpr ⟨fun h => h.symm, fun h => h.symm⟩
theorem cuts_in (s c : Str) : inV (V.str c) [.str (oneC s), .str "green"] = colH s c := by
  show (eqV (V.str (oneC s)) (V.str c) || (eqV (V.str "green") (V.str c) || false)) = _
  rw [eqV_str, eqV_str, Bool.or_false, Bool.or_comm]
  rfl
theorem cuts_in2 (s c : Str) : inV (V.str c) [.str "green", .str (oneC s)] = colH s c := by
  show (eqV (V.str "green") (V.str c) || (eqV (V.str (oneC s)) (V.str c) || false)) = _
  rw [eqV_str, eqV_str, Bool.or_false]
  rfl
theorem putV_new {kvs : List NE} {k : NestedKey} {b : Addr} {v : V} (h : lookV kvs k = none) : putV kvs k b v = kvs ++ [(k, b, v)] := by
  unfold putV
  rw [h]
  rfl
theorem k_nsetd {P : Program} {w : World} {td : TE} {t : TA} {σ : L2.St} {H : Hp} {Q : VK} (q : td σ H fun x H1 => ∃ a kvs0, x = V.ref a ∧ H1 a = some (NvO P w a kvs0) ∧ t σ H1 fun xs H2 => ∃ b z kvs k, xs = [.ref b, z] ∧ H2 a = some (NvO P w a kvs) ∧ KeysV H2 kvs ∧ KeyV H2 k (.ref b) ∧ k.depth ≤ 8 ∧ kvs.length < sizeLine ∧
  (∀ v, lookV kvs k = some v → Q v H2) ∧ (lookV kvs k = none → Q z (upd H2 a (NvO P w a (putV kvs k b z))))) : tNSetd P w td t σ H Q := q
theorem k_nvals {P : Program} {w : World} {td : TE} {σ : L2.St} {H : Hp} {Q : VK} (q : td σ H fun x H1 => ∃ a kvs, x = V.ref a ∧ H1 a = some (NvO P w a kvs) ∧ ∀ q, H1 q = none → Q (.ref q) (upd H1 q (VwO q a))) : tNVals P w td σ H Q := q
theorem erase_at {H : Hp} {ys : List V} {es : List Edge} (R : EsAt H ys es) (i : Nat) : EsAt H (ys.take i ++ ys.drop (i + 1)) (es.eraseIdx i) := by
  rw [List.eraseIdx_eq_take_drop_succ]
  exact (AllAt.take R i).app (AllAt.drop R (i + 1))
end Mine
namespace Mine
open PySem PySem.Spec PyProof.Rows L2
open Evl (Ex)
structure FTable (K : PySem.W.Frag) : Prop where
  cl : Cls K (He.ga K "Table")
  np : NoAttr K (He.ga K "Table") "_place"
  nr : NoAttr K (He.ga K "Table") "_rows"
def tfs (t : Addr) (pl : V) : List (Str × V) := putF "_place" pl (putF "_rows" (.ref t) [])
theorem tfs_get (t : Addr) (pl : V) (m : Str) : (tfs t pl).lookup m = if m = "_place" then some pl else if m = "_rows" then some (.ref t) else none := by
  unfold tfs
  rw [lookup_putF, lookup_putF]
  rfl
theorem tfs_rows (t : Addr) (pl : V) : (tfs t pl).lookup ("_rows" : Str) = some (.ref t) := by
  rw [tfs_get, if_neg (by decide), if_pos rfl]
theorem tfs_place (t : Addr) (pl : V) : (tfs t pl).lookup ("_place" : Str) = some pl := by
  rw [tfs_get, if_pos rfl]
theorem tfs_no (t : Addr) (pl : V) {m : Str} (h : ¬ m = "_rows") (h2 : ¬ m = "_place") : (tfs t pl).lookup m = none := by
  rw [tfs_get, if_neg h2, if_neg h]
theorem tfs_set (t t0 : Addr) (pl p0 : V) : putF "_place" pl (putF "_rows" (.ref t) (tfs t0 p0)) = tfs t pl := by
  have n1 : ¬ (("_rows" : Str) = "_place") := by decide
  have n2 : ¬ (("_place" : Str) = "_rows") := by decide
  unfold tfs
  simp [putF, n1, n2]
/-- a table with these rows at this place -/
def TbAt (K : PySem.W.Frag) (H : Hp) (b : Addr) (xs : List V) (pl : V) : Prop := ∃ dx t, H b = some (.ins (He.ga K "Table") dx (tfs t pl)) ∧ H t = some (.tup xs)
theorem TbAt.ex {K : PySem.W.Frag} {H H' : Hp} {b : Addr} {xs : List V} {pl : V} (h : TbAt K H b xs pl) (e : Ex H H') : TbAt K H' b xs pl := let ⟨dx, t, h1, h2⟩ := h; ⟨dx, t, e _ _ h1, e _ _ h2⟩
theorem TbAt.keep {K : PySem.W.Frag} {H H' : Hp} {b : Addr} {xs : List V} {pl : V} (h : TbAt K H b xs pl) (k : ∀ c o, H c = some o → (∀ ys, o ≠ .lst ys) → H' c = some o) : TbAt K H' b xs pl :=
  let ⟨dx, t, h1, h2⟩ := h; ⟨dx, t, k _ _ h1 (fun ys z => by cases z), k _ _ h2 (fun ys z => by cases z)⟩
/-- the places of a side -/
def GoAt (H : Hp) (y : V) (g : List Int) : Prop := ∃ a, y = .ref a ∧ H a = some (.tup (g.map V.int))
theorem GoAt.ex {H H' : Hp} {y : V} {g : List Int} (h : GoAt H y g) (e : Ex H H') : GoAt H' y g := let ⟨a, r, z⟩ := h; ⟨a, r, e _ _ z⟩
theorem GoAt.keep {H H' : Hp} {y : V} {g : List Int} (h : GoAt H y g) (k : ∀ c o, H c = some o → (∀ ys, o ≠ .lst ys) → H' c = some o) : GoAt H' y g := let ⟨a, r, z⟩ := h; ⟨a, r, k _ _ z (fun ys z => by cases z)⟩
abbrev RowG := List Int × List Int
def RoAt (H : Hp) (y : V) (r : RowG) : Prop := ∃ a y1 y2, y = .ref a ∧ H a = some (.tup [y1, y2]) ∧ GoAt H y1 r.1 ∧ GoAt H y2 r.2
theorem RoAt.ex {H H' : Hp} {y : V} {r : RowG} (h : RoAt H y r) (e : Ex H H') : RoAt H' y r := let ⟨a, y1, y2, q, z, h1, h2⟩ := h; ⟨a, y1, y2, q, e _ _ z, h1.ex e, h2.ex e⟩
theorem RoAt.keep {H H' : Hp} {y : V} {r : RowG} (h : RoAt H y r) (k : ∀ c o, H c = some o → (∀ ys, o ≠ .lst ys) → H' c = some o) : RoAt H' y r := let ⟨a, y1, y2, q, z, h1, h2⟩ := h; ⟨a, y1, y2, q, k _ _ z (fun ys z => by cases z), h1.keep k, h2.keep k⟩
def RsAt (H : Hp) (xs : List V) (rs : List RowG) : Prop := xs.length = rs.length ∧ ∀ (i : Nat) (r : RowG), rs[i]? = some r → ∃ y, xs[i]? = some y ∧ RoAt H y r
theorem RsAt.ex {H H' : Hp} {xs : List V} {rs : List RowG} (h : RsAt H xs rs) (e : Ex H H') : RsAt H' xs rs := ⟨h.1, fun i r q => let ⟨y, h1, h2⟩ := h.2 i r q; ⟨y, h1, h2.ex e⟩⟩
theorem RsAt.keep {H H' : Hp} {xs : List V} {rs : List RowG} (h : RsAt H xs rs) (k : ∀ c o, H c = some o → (∀ ys, o ≠ .lst ys) → H' c = some o) : RsAt H' xs rs := ⟨h.1, fun i r q => let ⟨y, h1, h2⟩ := h.2 i r q; ⟨y, h1, h2.keep k⟩⟩
/-- strictly ascending, within bounds -/
def AscF : Int → Int → List Int → Prop
  | _, _, [] => True
  | least, c, z :: r => least ≤ z ∧ z ≤ c - 1 ∧ AscF (z + 1) c r
def OkRT (rs : List RowG) : Prop := 1 ≤ rs.length ∧ rs.length ≤ 40 ∧ ∀ (i : Nat) (r : RowG), rs[i]? = some r → AscF ((i : Int) + 1) rs.length r.1 ∧ AscF ((i : Int) + 1) rs.length r.2
theorem AscF.len : ∀ {g : List Int} {least c : Int}, AscF least c g → (g.length : Int) ≤ max 0 (c - least)
  | [], _, _, _ => by simp; omega
  | z :: r, least, c, h => by
    have := AscF.len h.2.2
    rw [List.length_cons]
    have h1 := h.1
    have h2 := h.2.1
    omega
theorem AscF.mem : ∀ {g : List Int} {least c z : Int}, AscF least c g → z ∈ g → least ≤ z ∧ z ≤ c - 1
  | [], _, _, _, _, m => by cases m
  | y :: r, least, c, z, h, m => by
    rcases List.mem_cons.mp m with rfl | m
    · exact ⟨h.1, h.2.1⟩
    · have := AscF.mem h.2.2 m
      have h1 := h.1
      omega
/-- a list of things that fails as places -/
def BadF (K : PySem.W.Frag) (H : Hp) (c : Int) (wh : V → Int → Int → Bool) : Int → List V → Prop
  | _, [] => False
  | least, y :: r => (∃ T, TyB K H y T) ∧ (wh y least (c - 1) = false ∨ ∃ z, y = .int z ∧ wh y least (c - 1) = true ∧ BadF K H c wh (z + 1) r)
theorem BadF.ex {K : PySem.W.Frag} {H H' : Hp} {c : Int} {wh : V → Int → Int → Bool} (e : Ex H H') : ∀ {xs : List V} {least : Int}, BadF K H c wh least xs → BadF K H' c wh least xs
  | [], _, h => h
  | _ :: _, _, ⟨⟨T, t⟩, h⟩ => ⟨⟨T, TyB.ex t e⟩, h.imp id fun ⟨z, q, w, b⟩ => ⟨z, q, w, BadF.ex e b⟩⟩
def BadP (K : PySem.W.Frag) (H : Hp) (wh : V → Int → Int → Bool) (at_ c : Int) (y : V) : Prop := (∃ T, TyB K H y T ∧ T ≠ "tuple") ∨ ∃ a xs, y = .ref a ∧ H a = some (.tup xs) ∧ BadF K H c wh (at_ + 1) xs
theorem BadP.ex {K : PySem.W.Frag} {H H' : Hp} {wh : V → Int → Int → Bool} {p c : Int} {y : V} (h : BadP K H wh p c y) (e : Ex H H') : BadP K H' wh p c y := by
  rcases h with ⟨T, t, n⟩ | ⟨a, xs, q, z, b⟩
  · exact Or.inl ⟨T, TyB.ex t e, n⟩
  · exact Or.inr ⟨a, xs, q, e _ _ z, BadF.ex e b⟩
/-- a thing that is no row -/
def BadR (K : PySem.W.Frag) (H : Hp) (wh : V → Int → Int → Bool) (at_ c : Int) (y : V) : Prop := (∃ T, TyB K H y T ∧ T ≠ "tuple") ∨ (∃ a xs, y = .ref a ∧ H a = some (.tup xs) ∧ xs.length ≠ 2) ∨ ∃ a y1 y2, y = .ref a ∧ H a = some (.tup [y1, y2]) ∧ (BadP K H wh at_ c y1 ∨ ∃ g, GoAt H y1 g ∧ AscF (at_ + 1) c g ∧ BadP K H wh at_ c y2)
theorem BadR.ex {K : PySem.W.Frag} {H H' : Hp} {wh : V → Int → Int → Bool} {p c : Int} {y : V} (h : BadR K H wh p c y) (e : Ex H H') : BadR K H' wh p c y := by
  rcases h with ⟨T, t, n⟩ | ⟨a, xs, q, z, l⟩ | ⟨a, y1, y2, q, z, h⟩
  · exact Or.inl ⟨T, TyB.ex t e, n⟩
  · exact Or.inr (Or.inl ⟨a, xs, q, e _ _ z, l⟩)
  · refine Or.inr (Or.inr ⟨a, y1, y2, q, e _ _ z, ?_⟩)
    rcases h with h | ⟨g, h1, h2, h3⟩
    · exact Or.inl (h.ex e)
    · exact Or.inr ⟨g, h1.ex e, h2, h3.ex e⟩
theorem for_enumL {g : TG} {tb : TS} {D : Ends} {σ : L2.St} {H : Hp} {K : PySem.W.Frag} {a : Addr} {xs : List V} (Pv : Nat → L2.St → Hp → Prop) (h0 : Pv 0 σ H) (hl : ∀ i σ' H', i ≤ xs.length → Pv i σ' H' → SqL K H' a xs)
    (hs : ∀ i x σ' H' T, xs[i]? = some x → Pv i σ' H' → H' T = none → g (.ref T) σ' (upd H' T (.tup [.int (i : Nat), x])) fun σ2 H2 => tb { D with nx := Pv (i + 1), ct := Pv (i + 1), bk := D.nx } σ2 H2) (hd : ∀ σ' H', Pv xs.length σ' H' → D.nx σ' H') : forK g tb D σ (Ite K a) H := by
  refine ⟨fun i m σ H => i ≤ xs.length ∧ m = xs.length - i ∧ Pv i σ H, ⟨xs.length, Nat.zero_le _, by omega, h0⟩, ?_⟩
  rintro i m σ H ⟨hi, rfl, p⟩
  have hq := hl i σ H hi p
  rcases Nat.lt_or_ge i xs.length with h | h
  · refine Or.inr ⟨⟨xs, xs[i], hq, List.getElem?_eq_getElem h⟩, Pv (i + 1), fun σ' H' p' => ⟨xs.length - (i + 1), by omega, by omega, rfl, p'⟩, ?_⟩
    rintro v H' ⟨T, x, rfl, hT, rfl, hx⟩
    exact hs i x σ H T (hx xs hq) p hT
  · have e : i = xs.length := by omega
    subst e
    exact Or.inl ⟨⟨xs, hq, Nat.le_refl _⟩, hd σ H p⟩
theorem k_enumL {K : PySem.W.Frag} {σ : L2.St} {H : Hp} {ta : TA} {R : It → Hp → Prop} (q : ta σ H fun vs H1 => ∃ a xs, vs = [.ref a] ∧ SqL K H1 a xs ∧ R (Ite K a) H1) : iEnum K ta σ H R := q
end Mine
namespace Mine
open PySem PySem.Spec PyProof.Rows L2
open Evl (Ex)
/-- boards with these rows at these places -/
def TsAt (K : PySem.W.Frag) (H : Hp) (ys xs : List V) (g : List Int) : Prop := ys.length = g.length ∧ ∀ (i : Nat) (z : Int), g[i]? = some z → ∃ b, ys[i]? = some (.ref b) ∧ TbAt K H b xs (.int z)
theorem TsAt.ex {K : PySem.W.Frag} {H H' : Hp} {ys xs : List V} {g : List Int} (h : TsAt K H ys xs g) (e : Ex H H') : TsAt K H' ys xs g := ⟨h.1, fun i z q => let ⟨b, h1, h2⟩ := h.2 i z q; ⟨b, h1, h2.ex e⟩⟩
/-- the values that are due -/
def TdAt (H : Hp) (ys : List V) (u : Addr) (g : List Int) : Prop := ys.length = g.length ∧ ∀ (i : Nat) (z : Int), g[i]? = some z → ∃ d, ys[i]? = some (.ref d) ∧ H d = some (.tup [.str "table", .ref u, .int z])
theorem TdAt.ex {H H' : Hp} {ys : List V} {u : Addr} {g : List Int} (h : TdAt H ys u g) (e : Ex H H') : TdAt H' ys u g := ⟨h.1, fun i z q => let ⟨b, h1, h2⟩ := h.2 i z q; ⟨b, h1, e _ _ h2⟩⟩
def sideG (s : Str) (r : RowG) : List Int := if s = "left" then r.1 else r.2
theorem OkRT.side {rs : List RowG} (ok : OkRT rs) {k : Nat} {r : RowG} (h : rs[k]? = some r) (s : Str) : AscF ((k : Int) + 1) rs.length (sideG s r) := by
  unfold sideG
  split
  · exact (ok.2.2 k r h).1
  · exact (ok.2.2 k r h).2
theorem OkRT.few {rs : List RowG} (ok : OkRT rs) {k : Nat} {r : RowG} (h : rs[k]? = some r) (s : Str) : (sideG s r).length ≤ 40 := by
  have h1 := (ok.side h s).len
  have h2 := ok.2.1
  omega
theorem OkRT.few2 {rs : List RowG} (ok : OkRT rs) {k : Nat} {r : RowG} (h : rs[k]? = some r) : r.1.length ≤ 40 ∧ r.2.length ≤ 40 := by
  have h1 := (ok.2.2 k r h).1.len
  have h3 := (ok.2.2 k r h).2.len
  have h2 := ok.2.1
  exact ⟨by omega, by omega⟩
/-- the data of a row -/
def rowTD (r : RowG) : PyData := .tuple [.tuple (r.1.map .int), .tuple (r.2.map .int)]
theorem RoAt.dp {K : PySem.W.Frag} {H : Hp} {y : V} {r : RowG} (h : RoAt H y r) : Dp K H y (rowTD r) := by
  obtain ⟨a, y1, y2, rfl, ha, ⟨u, rfl, hu⟩, ⟨v, rfl, hv⟩⟩ := h
  exact .tup (k_st ha) (.cons (.tup (k_st hu) (dp_ints _)) (.cons (.tup (k_st hv) (dp_ints _)) .nil))
theorem eqv_row (g h : RowG) : (rowTD g).eqv (rowTD h) = decide (g = h) := by
  unfold rowTD
  simp only [PyData.eqv, PyData.eqvAll, PySem.W.ked_eqvAll]
  obtain ⟨a, b⟩ := g
  obtain ⟨c, d⟩ := h
  by_cases h1 : a = c <;> by_cases h2 : b = d <;> simp [h1, h2]
theorem shaped_row (g : RowG) : SeqAt.shaped (rowTD g) = true := by
  unfold rowTD SeqAt.shaped
  simp only [PyData.canLay0, PyData.depth, PyData.canLayAll0, PyData.depthAll, lay_ints, deep_ints]
  rfl
end Mine
namespace Mine
open PySem PySem.Spec PyProof.Rows L2
open Evl (Ex)
theorem ascF_of : ∀ {g : List Int} {least c : Int}, g.Pairwise (· < ·) → (∀ z ∈ g, least ≤ z ∧ z ≤ c - 1) → AscF least c g
  | [], _, _, _, _ => trivial
  | z :: r, least, c, p, h => by
    obtain ⟨p1, p2⟩ := List.pairwise_cons.mp p
    have hz := h z (List.mem_cons_self ..)
    refine ⟨hz.1, hz.2, ascF_of p2 fun y m => ?_⟩
    have h1 := p1 y m
    have h2 := h y (List.mem_cons_of_mem _ m)
    omega
/-- the members of a range that a test keeps -/
def keptL (lo : Int) (n : Nat) (b : Nat → Bool) : List Int := ((List.range n).filter b).map fun (i : Nat) => lo + (i : Int)
theorem keptL_asc (lo c : Int) (n : Nat) (b : Nat → Bool) (h : lo + n ≤ c) : AscF lo c (keptL lo n b) := by
  refine ascF_of ?_ fun z m => ?_
  · unfold keptL
    rw [List.pairwise_map]
    exact (List.pairwise_lt_range.filter b).imp fun h => by omega
  · obtain ⟨i, mi, rfl⟩ := List.mem_map.mp m
    have := List.mem_range.mp (List.mem_filter.mp mi).1
    omega
theorem keptL_map (lo : Int) (n : Nat) (p : Nat → Bool) : (List.range n).filterMap (fun (i : Nat) => if p i = true then some (V.int (lo + (i : Int))) else none) = (keptL lo n p).map V.int := by
  unfold keptL
  induction (List.range n) with
  | nil => rfl
  | cons x xs ih =>
    rw [List.filterMap_cons, List.filter_cons]
    by_cases h : p x = true
    · rw [if_pos h, if_pos h, List.map_cons, List.map_cons, ← ih]
    · rw [if_neg h, if_neg h]; exact ih
section
variable {g : TG} {tt : TT} {te : TE} {vs : List Nat} {σ : L2.St} {Q : VK} {H1 : Hp} {K : PySem.W.Frag}
theorem lcR_rngL {lo : Int} {n : Nat} (f : Nat → Option V) (len : n < sizeLine) (t : ∀ i, i < n → turnR g tt te vs σ (.int (lo + (i : Int))) (f i) H1)
    (q : ∀ D H', H1 D = none → Ex H1 H' → H' D = some (.lst ((List.range n).filterMap f)) → Q (.ref D) H') : lcR g tt te vs σ Q (Itr lo n) H1 := by
  intro D hD
  refine lc_range (lo := lo) (n := n) (fun i H => Ex H1 H ∧ H D = some (.lst ((List.range i).filterMap f))) ⟨Evl.Ex.new hD, upd_same⟩ (fun i H hi p => ?_) (fun H p => q D H hD p.1 p.2)
  refine turn_in (t i hi) p.1 hD p.2 ?_ fun H' e h' => ⟨e, ?_⟩
  · refine Nat.lt_of_le_of_lt (Nat.le_trans (List.length_filterMap_le _ _) ?_) (Nat.lt_trans hi len)
    rw [List.length_range]; exact Nat.le_refl i
  · rw [h', List.range_succ, List.filterMap_append]
    cases h : f i <;> simp [h]
end
end Mine
namespace Mine
open PySem PySem.Spec PyProof.Rows L2
open Evl (Ex)
theorem get_snoc {α : Type} {l : List α} {x y : α} {i : Nat} (h : (l ++ [x])[i]? = some y) : l[i]? = some y ∨ (i = l.length ∧ y = x) := by
  rcases Nat.lt_or_ge i l.length with c | c
  · rw [List.getElem?_append_left c] at h; exact Or.inl h
  · have l2 := (List.getElem?_eq_some_iff.mp h).1
    rw [List.length_append, List.length_singleton] at l2
    have e : i = l.length := by omega
    subst e
    rw [List.getElem?_append_right (Nat.le_refl _), Nat.sub_self] at h
    exact Or.inr ⟨rfl, (Option.some.inj h).symm⟩
theorem RsAt.snoc {H : Hp} {xs : List V} {rs : List RowG} {y : V} {r : RowG} (h : RsAt H xs rs) (hr : RoAt H y r) : RsAt H (xs ++ [y]) (rs ++ [r]) := by
  refine ⟨by rw [List.length_append, List.length_append, h.1]; rfl, fun i r' q => ?_⟩
  rcases get_snoc q with q | ⟨rfl, rfl⟩
  · obtain ⟨y', h1, h2⟩ := h.2 i r' q
    have l := (List.getElem?_eq_some_iff.mp h1).1
    exact ⟨y', by rw [List.getElem?_append_left l]; exact h1, h2⟩
  · exact ⟨y, by rw [← h.1, List.getElem?_append_right (Nat.le_refl _), Nat.sub_self]; rfl, hr⟩
end Mine
namespace Mine
open PySem PySem.Spec PyProof.Rows L2
open Evl (Ex)
section
variable {K : PySem.W.Frag} {H : Hp} {wh : V → Int → Int → Bool} {p c : Int}
theorem badR_ty {y : V} {T : String} (t : TyB K H y T) (n : T ≠ "tuple") : BadR K H wh p c y := Or.inl ⟨T, t, n⟩
theorem badR_len {a : Addr} {xs : List V} (h : H a = some (.tup xs)) (n : xs.length ≠ 2) : BadR K H wh p c (.ref a) := Or.inr (Or.inl ⟨a, xs, rfl, h, n⟩)
theorem badR_1 {a u : Addr} {y y2 : V} {r : List V} {T : String} (h : H a = some (.tup [.ref u, y2])) (hu : H u = some (.tup (y :: r))) (t : TyB K H y T) (w : wh y (p + 1) (c - 1) = false) : BadR K H wh p c (.ref a) :=
  Or.inr (Or.inr ⟨a, _, _, rfl, h, Or.inl (Or.inr ⟨u, _, rfl, hu, ⟨T, t⟩, Or.inl w⟩)⟩)
/-- the second thing fails behind a good first one -/
theorem badR_1' {a u : Addr} {z : Int} {y y2 : V} {r : List V} {T : String} (h : H a = some (.tup [.ref u, y2])) (hu : H u = some (.tup (.int z :: y :: r))) (w0 : wh (.int z) (p + 1) (c - 1) = true) (t : TyB K H y T) (w : wh y (z + 1) (c - 1) = false) : BadR K H wh p c (.ref a) :=
  Or.inr (Or.inr ⟨a, _, _, rfl, h, Or.inl (Or.inr ⟨u, _, rfl, hu, ⟨_, .int z⟩, Or.inr ⟨z, rfl, w0, ⟨T, t⟩, Or.inl w⟩⟩)⟩)
theorem badR_l1 {a : Addr} {y1 y2 : V} {T : String} (h : H a = some (.tup [y1, y2])) (t : TyB K H y1 T) (n : T ≠ "tuple") : BadR K H wh p c (.ref a) :=
  Or.inr (Or.inr ⟨a, _, _, rfl, h, Or.inl (Or.inl ⟨T, t, n⟩)⟩)
theorem badR_l2 {a : Addr} {y1 y2 : V} {g : List Int} {T : String} (h : H a = some (.tup [y1, y2])) (hg : GoAt H y1 g) (as : AscF (p + 1) c g) (t : TyB K H y2 T) (n : T ≠ "tuple") : BadR K H wh p c (.ref a) :=
  Or.inr (Or.inr ⟨a, _, _, rfl, h, Or.inr ⟨g, hg, as, Or.inl ⟨T, t, n⟩⟩⟩)
theorem badR_2 {a u : Addr} {y1 y : V} {r : List V} {g : List Int} {T : String} (h : H a = some (.tup [y1, .ref u])) (hg : GoAt H y1 g) (as : AscF (p + 1) c g) (hu : H u = some (.tup (y :: r))) (t : TyB K H y T) (w : wh y (p + 1) (c - 1) = false) : BadR K H wh p c (.ref a) :=
  Or.inr (Or.inr ⟨a, _, _, rfl, h, Or.inr ⟨g, hg, as, Or.inr ⟨u, _, rfl, hu, ⟨T, t⟩, Or.inl w⟩⟩⟩)
theorem badR_2' {a u : Addr} {z : Int} {y1 y : V} {r : List V} {g : List Int} {T : String} (h : H a = some (.tup [y1, .ref u])) (hg : GoAt H y1 g) (as : AscF (p + 1) c g) (hu : H u = some (.tup (.int z :: y :: r))) (w0 : wh (.int z) (p + 1) (c - 1) = true) (t : TyB K H y T) (w : wh y (z + 1) (c - 1) = false) : BadR K H wh p c (.ref a) :=
  Or.inr (Or.inr ⟨a, _, _, rfl, h, Or.inr ⟨g, hg, as, Or.inr ⟨u, _, rfl, hu, ⟨_, .int z⟩, Or.inr ⟨z, rfl, w0, ⟨T, t⟩, Or.inl w⟩⟩⟩⟩)
theorem goNil {a : Addr} (h : H a = some (.tup [])) : GoAt H (.ref a) [] := ⟨a, rfl, h⟩
def Bads (K : PySem.W.Frag) (H : Hp) (wh : V → Int → Int → Bool) (n : Nat) (b : Addr) (p c : Int) : Prop := ∃ ys, H b = some (.lst ys) ∧ ys.length ≤ n ∧ ∀ y ∈ ys, BadR K H wh p c y
end
end Mine
namespace Mine
open PySem PySem.Spec PyProof.Rows L2
open Evl (Ex)
theorem RsAt.tail {H : Hp} {y : V} {ys : List V} {r : RowG} {rs : List RowG} (h : RsAt H (y :: ys) (r :: rs)) : RoAt H y r ∧ RsAt H ys rs := by
  refine ⟨?_, by have := h.1; rw [List.length_cons, List.length_cons] at this; omega, fun i r' q => ?_⟩
  · obtain ⟨y', h1, h2⟩ := h.2 0 r rfl
    cases h1; exact h2
  · obtain ⟨y', h1, h2⟩ := h.2 (i + 1) r' q
    exact ⟨y', h1, h2⟩
theorem RsAt.dp {K : PySem.W.Frag} {H : Hp} : ∀ {xs : List V} {rs : List RowG}, RsAt H xs rs → DpAll K H xs (rs.map rowTD)
  | [], [], _ => .nil
  | y :: ys, r :: rs, h => .cons h.tail.1.dp (RsAt.dp h.tail.2)
  | [], _ :: _, h => absurd h.1 (by simp)
  | _ :: _, [], h => absurd h.1 (by simp)
theorem deep_rows : ∀ rs : List RowG, PyData.depthAll (rs.map rowTD) ≤ 2
  | [] => by simp only [List.map_nil, PyData.depthAll]; decide
  | g :: rs => by
    have h := deep_rows rs
    have e : (rowTD g).depth = 2 := by
      unfold rowTD
      simp only [PyData.depth, PyData.depthAll, deep_ints]
      rfl
    simp only [List.map_cons, PyData.depthAll, e]
    omega
theorem lay_rows : ∀ rs : List RowG, PyData.canLayAll0 (rs.map rowTD) = true
  | [] => rfl
  | g :: rs => by
    have e : (rowTD g).canLay0 = true := by
      unfold rowTD
      simp only [PyData.canLay0, PyData.canLayAll0, lay_ints]
      rfl
    simp only [List.map_cons, PyData.canLayAll0, e, lay_rows rs]
    rfl
theorem shaped_rows (rs : List RowG) : SeqAt.shaped (.list (rs.map rowTD)) = true := by
  have h := deep_rows rs
  have hd : (PyData.list (rs.map rowTD)).depth ≤ 64 := by simp only [PyData.depth]; omega
  have hl : (PyData.list (rs.map rowTD)).canLay0 = true := by simp only [PyData.canLay0]; exact lay_rows rs
  unfold SeqAt.shaped
  rw [hl, decide_eq_true hd]
  rfl
theorem eqvAll_rows : ∀ rs : List RowG, PyData.eqvAll (rs.map rowTD) (rs.map rowTD) = true
  | [] => by simp only [List.map_nil, PyData.eqvAll]
  | g :: rs => by
    simp only [List.map_cons, PyData.eqvAll, eqvAll_rows rs, eqv_row]
    simp
theorem eqv_rows (rs : List RowG) : PyData.eqv (.list (rs.map rowTD)) (.list (rs.map rowTD)) = true := by
  rw [PyData.eqv]
  exact eqvAll_rows rs
theorem k_neRows {K : PySem.W.Frag} {H : Hp} {Q : VK} {a b : Addr} {xs : List V} {rs : List RowG} (h1 : SqL K H a xs) (h2 : SqL K H b xs) (R : RsAt H xs rs) (q : Q (.bl false) H) : rNeD K (.ref a) (.ref b) H Q :=
  ⟨_, _, .lst h1 R.dp, .lst h2 R.dp, shaped_rows rs, shaped_rows rs, by rw [eqv_rows]; exact q⟩
theorem TbAt.set {K : PySem.W.Frag} {H : Hp} {b p : Addr} {xs ys : List V} {pl : V} {o : HO} (h : TbAt K H b xs pl) (hp : H p = some (.lst ys)) : TbAt K (upd H p o) b xs pl :=
  h.keep fun c q z n => (upd_ne fun e => n ys (by rw [e, hp] at z; exact (Option.some.inj z).symm)).trans z
end Mine
namespace Mine
open PySem PySem.Spec PyProof.Rows L2
open Evl (Ex)
/-! boards of any kind -/
/-- one of two readings -/
def tOrE (a b : TE) : TE := fun σ H Q => a σ H Q ∨ b σ H Q
theorem pe_orE {X : Cx} {e : Expr} {a b : TE} (ha : PE X e a) (hb : PE X e b) : PE X e (tOrE a b) :=
  ⟨fun pins s σ H Q I h => h.elim (ha.run pins s σ H Q I) (hb.run pins s σ H Q I)⟩
theorem k_orL {a b : TE} {σ : L2.St} {H : Hp} {Q : VK} (h : a σ H Q) : tOrE a b σ H Q := Or.inl h
theorem k_orR {a b : TE} {σ : L2.St} {H : Hp} {Q : VK} (h : b σ H Q) : tOrE a b σ H Q := Or.inr h
/-! int(a bool) -/
def rIntB : List V → Hp → VK → Prop := fun xs H Q => ∃ b, xs = [V.bl b] ∧ Q (.int (if b then 1 else 0)) H
theorem cr_intB {X : Cx} : CallR X (.type "int") rIntB := fun pins s σ H xs us Q I r h =>
  call_int1 pins s σ H xs us Q I r (Or.inr h)
theorem k_rIntB {b : Bool} {H : Hp} {Q : VK} (q : Q (.int (if b then 1 else 0)) H) : rIntB [.bl b] H Q := ⟨b, rfl, q⟩
/-! type(x) of any thing -/
inductive TyA (K : PySem.W.Frag) (H : Hp) : V → V → Prop
  | b {x : V} {T : String} (h : TyB K H x T) : TyA K H x (.ty T)
  | i {a C dx : Addr} {fs : List (Str × V)} (h : H a = some (.ins C dx fs)) : TyA K H (.ref a) (.ref C)
def rTypI (K : PySem.W.Frag) : List V → Hp → VK → Prop := fun xs H Q => ∃ x T, xs = [x] ∧ TyA K H x T ∧ Q T H
theorem call_typeI {X : Cx} : CallR X (.type "type") (rTypI X.K) := by
  intro pins s σ H xs us Q I r h
  obtain ⟨x, T, rfl, t, q⟩ := h
  cases t with
  | b t => exact call_type1 pins s σ H _ us Q I r ⟨_, _, rfl, t, q⟩
  | i t => exact cr_type pins s σ H _ us Q I r ⟨_, _, _, _, rfl, t, q⟩
/-- a type or a class: whether they are the same -/
inductive IsA (K : PySem.W.Frag) : V → V → Bool → Prop
  | tt (a b : String) : IsA K (.ty a) (.ty b) (decide (a = b))
  | tc (a : String) (b : Addr) : IsA K (.ty a) (.ref b) false
  | ct (a : Addr) (b : String) : IsA K (.ref a) (.ty b) false
  | cc {a b : Addr} (h : PySem.W.makesIn K a = true) (h' : PySem.W.makesIn K b = true) : IsA K (.ref a) (.ref b) (decide (a = b))
def rIsA (K : PySem.W.Frag) : R2 := fun x y H Q => ∃ b, IsA K x y b ∧ Q (.bl b) H
def rNotA (K : PySem.W.Frag) : R2 := fun x y H Q => ∃ b, IsA K x y b ∧ Q (.bl (!b)) H
theorem op_isA {X : Cx} : OpR X (compareOp .Is) (rIsA X.K) := by
  intro pins s σ H x y v u Q I rx ry h
  obtain ⟨b, t, q⟩ := h
  cases t with
  | tt a b => exact op_isTyB pins s σ H _ _ v u Q I rx ry ⟨a, b, rfl, rfl, q⟩
  | tc a b =>
    cases (show v = Value.type a from rx)
    cases (show u = Value.ref b from ry)
    exact wpAny_is_other rfl (by intro z; cases z) ⟨.bl false, H, I, rfl, q⟩
  | ct a b =>
    cases (show v = Value.ref a from rx)
    cases (show u = Value.type b from ry)
    exact wpAny_is_other rfl (by intro z; cases z) ⟨.bl false, H, I, rfl, q⟩
  | cc h1 h2 => exact op_is_cls pins s σ H _ _ v u Q I rx ry ⟨_, _, rfl, rfl, Or.inr ⟨h1, h2⟩, q⟩
theorem op_notA {X : Cx} : OpR X (compareOp .IsNot) (rNotA X.K) := by
  intro pins s σ H x y v u Q I rx ry h
  obtain ⟨b, t, q⟩ := h
  cases t with
  | tt a b => exact op_notTyB pins s σ H _ _ v u Q I rx ry ⟨a, b, rfl, rfl, q⟩
  | tc a b =>
    cases (show v = Value.type a from rx)
    cases (show u = Value.ref b from ry)
    exact wpAny_isNot_other rfl (by intro z; cases z) ⟨.bl true, H, I, rfl, q⟩
  | ct a b =>
    cases (show v = Value.ref a from rx)
    cases (show u = Value.type b from ry)
    exact wpAny_isNot_other rfl (by intro z; cases z) ⟨.bl true, H, I, rfl, q⟩
  | cc h1 h2 => exact op_isnot_cls pins s σ H _ _ v u Q I rx ry ⟨_, _, rfl, rfl, Or.inr ⟨h1, h2⟩, q⟩
theorem k_typI {K : PySem.W.Frag} {H : Hp} {Q : VK} {x T : V} (t : TyA K H x T) (q : Q T H) : rTypI K [x] H Q := ⟨x, T, rfl, t, q⟩
theorem k_isA {K : PySem.W.Frag} {H : Hp} {Q : VK} {x y : V} {b : Bool} (t : IsA K x y b) (q : Q (.bl b) H) : rIsA K x y H Q := ⟨b, t, q⟩
theorem k_notA {K : PySem.W.Frag} {H : Hp} {Q : VK} {x y : V} {b : Bool} (t : IsA K x y b) (q : Q (.bl (!b)) H) : rNotA K x y H Q := ⟨b, t, q⟩
/-! all but lists stays -/
def Kl (H H' : Hp) : Prop := ∀ c o, H c = some o → (∀ ys, o ≠ .lst ys) → H' c = some o
theorem Kl.of {H H' : Hp} (e : Ex H H') : Kl H H' := fun c o z _ => e c o z
theorem Kl.trans {H H1 H2 : Hp} (a : Kl H H1) (b : Kl H1 H2) : Kl H H2 := fun c o z n => b c o (a c o z n) n
theorem Kl.refl (H : Hp) : Kl H H := fun _ _ z _ => z
/-- one list changes -/
theorem Kl.set {H H' : Hp} {p : Addr} {ys : List V} (hp : H p = some (.lst ys)) (k : ∀ c o, H c = some o → c ≠ p → H' c = some o) : Kl H H' :=
  fun c o z n => k c o z fun e => n ys (by rw [e, hp] at z; exact (Option.some.inj z).symm)
/-! data -/
def Lays (n : Nat) (d : PyData) : Prop := d.canLay0 = true ∧ d.depth ≤ n
theorem lays_all {n : Nat} : ∀ {ds : List PyData}, (∀ d ∈ ds, Lays n d) → PyData.canLayAll0 ds = true ∧ PyData.depthAll ds ≤ n
  | [], _ => ⟨rfl, by simp only [PyData.depthAll]; omega⟩
  | d :: ds, h => by
    obtain ⟨h1, h2⟩ := h d List.mem_cons_self
    obtain ⟨h3, h4⟩ := lays_all (ds := ds) fun x m => h x (List.mem_cons_of_mem _ m)
    simp only [PyData.canLayAll0, PyData.depthAll, h1, h3]
    exact ⟨rfl, by omega⟩
theorem lays_tup {n : Nat} {ds : List PyData} (h : ∀ d ∈ ds, Lays n d) : Lays (n + 1) (.tuple ds) := by
  obtain ⟨h1, h2⟩ := lays_all h
  unfold Lays
  simp only [PyData.canLay0, PyData.depth]
  exact ⟨h1, by omega⟩
theorem lays_list {n : Nat} {ds : List PyData} (h : ∀ d ∈ ds, Lays n d) : Lays (n + 1) (.list ds) := by
  obtain ⟨h1, h2⟩ := lays_all h
  unfold Lays
  simp only [PyData.canLay0, PyData.depth]
  exact ⟨h1, by omega⟩
theorem lays_int (n : Nat) (i : Int) : Lays n (.int i) := ⟨rfl, by simp only [PyData.depth]; omega⟩
theorem lays_str (n : Nat) {s : Str} (h : PyData.strOk s = true) : Lays n (.str s) := ⟨by simp only [PyData.canLay0]; exact h, by simp only [PyData.depth]; omega⟩
theorem okF_str {rs : Fl} {w : Nat} (ok : OkF rs w) {r : List Nat} (m : r ∈ rs) : PyData.strOk (tx r) = true := by
  obtain ⟨i, hi⟩ := List.mem_iff_getElem?.mp m
  obtain ⟨r', hr', o⟩ := ok.at (List.getElem?_eq_some_iff.mp hi).1
  rw [hi] at hr'
  cases hr'
  unfold PyData.strOk tx
  rw [List.all_toArray, List.all_eq_true]
  intro c mc
  rcases o.2 c mc with rfl | rfl <;> decide
theorem okE_str {e : Edge} (ok : OkE e) : PyData.strOk e.2.2 = true := by
  rcases ok.2.2 with h | h | h <;> rw [h] <;> decide +kernel

theorem Lays.up {m n : Nat} {d : PyData} (h : Lays m d) (q : m ≤ n) : Lays n d := ⟨h.1, Nat.le_trans h.2 q⟩
theorem Lays.shaped {d : PyData} (h : Lays 64 d) : SeqAt.shaped d = true := by
  unfold SeqAt.shaped
  rw [h.1, decide_eq_true h.2]; rfl
theorem Lays.refl {n : Nat} {d : PyData} (h : Lays n d) : d.eqv d = true := SeqAt.eqv_refl d h.1
def heapsQ (ns : List Int) : PyData := .tuple [.str "heaps", .tuple (ns.map .int)]
def floorQ (rs : Fl) : PyData := .tuple [.str "floor", .tuple (rs.map fun r => .str (tx r))]
def frogsQ (l : List Nat) : PyData := .tuple [.str "frogs", .str (tx l)]
def cakesQ (cs : List Ck) : PyData := .tuple [.str "cakes", .tuple (cs.map fun c => .tuple [.int c.1, .int c.2])]
def tableQ (rs : List RowG) (k : Int) : PyData := .tuple [.str "table", .tuple (rs.map rowTD), .int k]
/-- a board with a value -/
inductive Bv (K : PySem.W.Frag) (H : Hp) (b : Addr) : PyData → Prop
  | heaps {ns : List Int} (h : HpAt K H b ns) : Bv K H b (heapsQ ns)
  | hedge {es : List Edge} (h : HgAt K H b es) (ok : ∀ e ∈ es, OkE e) : Bv K H b (dueQ es)
  | floor {rs : Fl} {w : Nat} (h : FlAt K H b rs) (ok : OkF rs w) : Bv K H b (floorQ rs)
  | frogs {l : List Nat} (h : FgAt K H b l) (ok : OkL l) : Bv K H b (frogsQ l)
  | cakes {cs : List Ck} (h : CbAt K H b cs) : Bv K H b (cakesQ cs)
  | table {xs : List V} {rs : List RowG} {k : Int} (h : TbAt K H b xs (.int k)) (r : RsAt H xs rs) : Bv K H b (tableQ rs k)
theorem HpAt.kl {K : PySem.W.Frag} {H H' : Hp} {b : Addr} {ns : List Int} (h : HpAt K H b ns) (k : Kl H H') : HpAt K H' b ns := let ⟨dx, t, h1, h2⟩ := h; ⟨dx, t, k _ _ h1 (fun ys z => by cases z), k _ _ h2 (fun ys z => by cases z)⟩
theorem HgAt.kl {K : PySem.W.Frag} {H H' : Hp} {b : Addr} {es : List Edge} (h : HgAt K H b es) (k : Kl H H') : HgAt K H' b es :=
  let ⟨dx, t, xs, h1, h2, h3⟩ := h; ⟨dx, t, xs, k _ _ h1 (fun ys z => by cases z), k _ _ h2 (fun ys z => by cases z), h3.imp fun y c q => q.keep k⟩
theorem Bv.kl {K : PySem.W.Frag} {H H' : Hp} {b : Addr} {d : PyData} (h : Bv K H b d) (k : Kl H H') : Bv K H' b d := by
  cases h with
  | heaps h => exact .heaps (h.kl k)
  | hedge h ok => exact .hedge (h.kl k) ok
  | floor h ok => exact .floor (h.keep k) ok
  | frogs h ok => exact .frogs (h.keep k) ok
  | cakes h => exact .cakes (h.keep k)
  | table h r => exact .table (h.keep k) (r.keep k)
theorem Bv.lays {K : PySem.W.Frag} {H : Hp} {b : Addr} {d : PyData} (h : Bv K H b d) : Lays 4 d := by
  have two : ∀ {s : Str} {q : PyData}, PyData.strOk s = true → Lays 3 q → Lays 4 (.tuple [.str s, q]) := fun {s q} hs h => lays_tup fun d m => by
    rcases List.mem_cons.mp m with rfl | m
    · exact lays_str _ hs
    · rw [List.mem_singleton] at m; rw [m]; exact h
  cases h with
  | heaps h => exact two (by decide +kernel) ((lays_tup (n := 1) fun d m => by obtain ⟨i, _, rfl⟩ := List.mem_map.mp m; exact lays_int _ _).up (by decide))
  | hedge h ok =>
    unfold dueQ
    exact two (by decide +kernel) (lays_tup fun d m => by
      obtain ⟨e, me, rfl⟩ := List.mem_map.mp m
      exact (lays_tup (n := 1) fun d m => by
        simp only [List.mem_cons, List.not_mem_nil, or_false] at m
        rcases m with rfl | rfl | rfl
        · exact lays_int _ _
        · exact lays_int _ _
        · exact lays_str _ (okE_str (ok e me))))
  | floor h ok => exact two (by decide +kernel) ((lays_tup (n := 1) fun d m => by obtain ⟨i, mi, rfl⟩ := List.mem_map.mp m; exact lays_str _ (okF_str ok mi)).up (by decide))
  | frogs h ok => exact two (by decide +kernel) (lays_str _ (ok_str ok))
  | cakes h => exact two (by decide +kernel) (lays_tup fun d m => by
      obtain ⟨e, _, rfl⟩ := List.mem_map.mp m
      exact (lays_tup (n := 1) fun d m => by
        simp only [List.mem_cons, List.not_mem_nil, or_false] at m
        rcases m with rfl | rfl
        · exact lays_int _ _
        · exact lays_int _ _))
  | @table xs rs k h r =>
    refine lays_tup fun d m => ?_
    simp only [List.mem_cons, List.not_mem_nil, or_false] at m
    rcases m with rfl | rfl | rfl
    · exact lays_str _ (by decide +kernel)
    · refine lays_tup fun d m => ?_
      obtain ⟨e, _, rfl⟩ := List.mem_map.mp m
      unfold rowTD
      refine lays_tup fun d m => ?_
      simp only [List.mem_cons, List.not_mem_nil, or_false] at m
      rcases m with rfl | rfl
      · exact lays_tup fun d m => by obtain ⟨i, _, rfl⟩ := List.mem_map.mp m; exact lays_int 0 _
      · exact lays_tup fun d m => by obtain ⟨i, _, rfl⟩ := List.mem_map.mp m; exact lays_int 0 _
    · exact lays_int _ _
/-- a value that is a board -/
def BvV (K : PySem.W.Frag) (H : Hp) (y : V) (d : PyData) : Prop := ∃ b, y = .ref b ∧ Bv K H b d
theorem BvV.kl {K : PySem.W.Frag} {H H' : Hp} {y : V} {d : PyData} (h : BvV K H y d) (k : Kl H H') : BvV K H' y d := let ⟨b, r, z⟩ := h; ⟨b, r, z.kl k⟩
abbrev BvS (K : PySem.W.Frag) (H : Hp) (ys : List V) (ds : List PyData) : Prop := AllAt (BvV K) H ys ds
theorem BvS.kl {K : PySem.W.Frag} {H H' : Hp} {ys : List V} {ds : List PyData} (h : BvS K H ys ds) (k : Kl H H') : BvS K H' ys ds := h.imp fun y c q => q.kl k
/-- a thing with data -/
abbrev DqV (K : PySem.W.Frag) (H : Hp) (y : V) (d : PyData) : Prop := Dp K H y d
abbrev DqS (K : PySem.W.Frag) (H : Hp) (ys : List V) (ds : List PyData) : Prop := AllAt (DqV K) H ys ds
theorem allAt_all {K : PySem.W.Frag} {H : Hp} : ∀ {ys : List V} {ds : List PyData}, DqS K H ys ds → DpAll K H ys ds
  | [], [], _ => .nil
  | y :: ys, d :: ds, h => .cons h.tail.1 (allAt_all h.tail.2)
/-- a board on which moves are asked: what is wanted of it -/
inductive Bd (K : PySem.W.Frag) (H : Hp) (b : Addr) : (Str → List PyData) → PyData → Prop
  | heaps {ns : List Int} (h : HpAt K H b ns) (ok : OkS ns) : Bd K H b (fun _ => (mvs ns).map heapsQ) (heapsQ ns)
  | hedge {es : List Edge} (h : HgAt K H b es) (ok : ∀ e ∈ es, OkE e) (l : es.length ≤ 16) : Bd K H b (fun s => (mvsE s es).map dueQ) (dueQ es)
  | floor {rs : Fl} {w : Nat} (h : FlAt K H b rs) (ok : OkF rs w) : Bd K H b (fun s => (mvsL s w rs).map floorQ) (floorQ rs)
  | frogs {l : List Nat} (h : FgAt K H b l) (ok : OkL l) : Bd K H b (fun s => (mvsF s l).map frogsQ) (frogsQ l)
  | cakes {cs : List Ck} (h : CbAt K H b cs) (ok : OkC cs) : Bd K H b (fun s => (mvsC s cs).map cakesQ) (cakesQ cs)
  | table {xs : List V} {rs : List RowG} {k : Nat} {r : RowG} (h : TbAt K H b xs (.int (k : Int))) (hr : RsAt H xs rs) (ok : OkRT rs) (hk : rs[k]? = some r) : Bd K H b (fun s => (sideG s r).map (tableQ rs)) (tableQ rs k)
theorem Bd.bv {K : PySem.W.Frag} {H : Hp} {b : Addr} {f : Str → List PyData} {d : PyData} (h : Bd K H b f d) : Bv K H b d := by
  cases h with
  | heaps h _ => exact .heaps h
  | hedge h ok _ => exact .hedge h ok
  | floor h ok => exact .floor h ok
  | frogs h ok => exact .frogs h ok
  | cakes h _ => exact .cakes h
  | table h hr _ _ => exact .table h hr
theorem Bd.kl {K : PySem.W.Frag} {H H' : Hp} {b : Addr} {f : Str → List PyData} {d : PyData} (h : Bd K H b f d) (k : Kl H H') : Bd K H' b f d := by
  cases h with
  | heaps h ok => exact .heaps (h.kl k) ok
  | hedge h ok l => exact .hedge (h.kl k) ok l
  | floor h ok => exact .floor (h.keep k) ok
  | frogs h ok => exact .frogs (h.keep k) ok
  | cakes h ok => exact .cakes (h.keep k) ok
  | table h hr ok hk => exact .table (h.keep k) (hr.keep k) ok hk
/-- a board: its moves' values, its value -/
abbrev BG := (Str → List PyData) × PyData
def BdV (K : PySem.W.Frag) (H : Hp) (y : V) (g : BG) : Prop := ∃ b, y = .ref b ∧ Bd K H b g.1 g.2
theorem BdV.kl {K : PySem.W.Frag} {H H' : Hp} {y : V} {g : BG} (h : BdV K H y g) (k : Kl H H') : BdV K H' y g := let ⟨b, r, z⟩ := h; ⟨b, r, z.kl k⟩
abbrev BdS (K : PySem.W.Frag) (H : Hp) (ys : List V) (gs : List BG) : Prop := AllAt (BdV K) H ys gs
theorem BdS.kl {K : PySem.W.Frag} {H H' : Hp} {ys : List V} {gs : List BG} (h : BdS K H ys gs) (k : Kl H H') : BdS K H' ys gs := h.imp fun y c q => q.kl k
theorem BdS.bv {K : PySem.W.Frag} {H : Hp} {ys : List V} {gs : List BG} (h : BdS K H ys gs) : BvS K H ys (gs.map (·.2)) := ⟨by rw [List.length_map]; exact h.1, fun i d hd => by
  rw [List.getElem?_map, Option.map_eq_some_iff] at hd
  obtain ⟨g, hg, rfl⟩ := hd
  obtain ⟨y, h1, b, h2, h3⟩ := h.2 i g hg
  exact ⟨y, h1, b, h2, h3.bv⟩⟩
/-! comprehensions over a range whose parts change the heap -/
theorem lcR_rst {te : TE} {σ : L2.St} {Q : VK} {H1 : Hp} {n i : Nat} (St : Nat → List V → Hp → Prop) (len : n < sizeLine)
    (mu : ∀ D k acc ys H H', H1 D = none → H D = some (.lst ys) → (∀ c o, H c = some o → c ≠ D → H' c = some o) → St k acc H → St k acc H') (h0 : ∀ D, H1 D = none → St 0 [] (upd H1 D (.lst [])))
    (hs : ∀ k acc H D ys, H1 D = none → H D = some (.lst ys) → k < n → acc.length = k → St k acc H → ∀ R : VK, (∀ y H', H' D = some (.lst ys) → St (k + 1) (acc ++ [y]) H' → R y H') → te ((wipe σ [i]).set i (some (.int (k : Int)))) H R)
    (q : ∀ D acc H', H1 D = none → acc.length = n → H' D = some (.lst acc) → St n acc H' → Q (.ref D) H') (w : ∀ x, wipe ((wipe σ [i]).set i (some x)) [i] = wipe σ [i] := by intro x; rfl) : lcR (gName i) tYes te [i] σ Q (Itr 0 n) H1 := by
  intro D hD
  refine lc_range (lo := 0) (n := n) (fun k H => ∃ acc : List V, acc.length = k ∧ H D = some (.lst acc) ∧ St k acc H) ⟨[], rfl, upd_same, h0 D hD⟩ (fun k H hk ⟨acc, la, hd, s⟩ => ?_) (fun H ⟨acc, la, hd, s⟩ => q D acc H hD la hd s)
  have e0 : (0 : Int) + (k : Int) = (k : Int) := Int.zero_add _
  rw [e0]
  refine ⟨w _, ?_⟩
  refine hs k acc H D acc hD hd hk la s _ fun y H4 h4 s4 => ?_
  refine ⟨acc, h4, ?_, acc ++ [y], by rw [List.length_append, la]; rfl, upd_same, mu D _ _ acc H4 _ hD h4 (fun c o z n => (upd_ne n).trans z) s4⟩
  omega
theorem lcR_rts {tt : TT} {σ : L2.St} {Q : VK} {H1 : Hp} {lo : Int} {n i : Nat} (St : Nat → List V → Hp → Prop) (len : n < sizeLine)
    (mu : ∀ D k acc ys H H', H1 D = none → H D = some (.lst ys) → (∀ c o, H c = some o → c ≠ D → H' c = some o) → St k acc H → St k acc H') (h0 : ∀ D, H1 D = none → St 0 [] (upd H1 D (.lst [])))
    (hs : ∀ k acc H D ys, H1 D = none → H D = some (.lst ys) → k < n → St k acc H → ∀ R : Bool → Hp → Prop, (∀ b H', H' D = some (.lst ys) → St (k + 1) (if b = true then acc ++ [.int (lo + (k : Int))] else acc) H' → R b H') → tt ((wipe σ [i]).set i (some (.int (lo + (k : Int))))) H R)
    (q : ∀ D acc H', H1 D = none → acc.length ≤ n → H' D = some (.lst acc) → St n acc H' → Q (.ref D) H') (w : ∀ x, wipe ((wipe σ [i]).set i (some x)) [i] = wipe σ [i] := by intro x; rfl) (v : ∀ x, ((wipe σ [i]).set i (some x))[i]? = some (some x) := by intro x; rfl) : lcR (gName i) tt (tVar i) [i] σ Q (Itr lo n) H1 := by
  intro D hD
  refine lc_range (lo := lo) (n := n) (fun k H => ∃ acc : List V, acc.length ≤ k ∧ H D = some (.lst acc) ∧ St k acc H) ⟨[], Nat.le_refl _, upd_same, h0 D hD⟩ (fun k H hk ⟨acc, la, hd, s⟩ => ?_) (fun H ⟨acc, la, hd, s⟩ => q D acc H hD la hd s)
  refine ⟨w _, ?_⟩
  refine hs k acc H D acc hD hd hk s _ fun b H4 h4 s4 => ?_
  cases b with
  | false =>
    rw [if_neg (by decide)] at s4 ⊢
    exact ⟨acc, by omega, h4, s4⟩
  | true =>
    rw [if_pos rfl] at s4 ⊢
    refine ⟨_, v _, acc, h4, ?_, acc ++ [.int (lo + (k : Int))], by rw [List.length_append, List.length_singleton]; omega, upd_same, mu D _ _ acc H4 _ hD h4 (fun c o z n => (upd_ne n).trans z) s4⟩
    omega
/-! data of tuples alone: nothing in it changes -/
mutual
inductive Dt (H : Hp) : V → PyData → Prop
  | int (i : Int) : Dt H (.int i) (.int i)
  | str (x : Str) : Dt H (.str x) (.str x)
  | tup {a : Addr} {xs : List V} {ds : List PyData} (h : H a = some (.tup xs)) (r : DtAll H xs ds) : Dt H (.ref a) (.tuple ds)
inductive DtAll (H : Hp) : List V → List PyData → Prop
  | nil : DtAll H [] []
  | cons {v : V} {vs : List V} {d : PyData} {ds : List PyData} (h : Dt H v d) (r : DtAll H vs ds) : DtAll H (v :: vs) (d :: ds)
end
mutual
theorem Dt.kl {H H' : Hp} (k : Kl H H') : ∀ {v : V} {d : PyData}, Dt H v d → Dt H' v d
  | _, _, .int i => .int i
  | _, _, .str x => .str x
  | _, _, .tup h r => .tup (k _ _ h (fun ys z => by cases z)) (DtAll.kl k r)
theorem DtAll.kl {H H' : Hp} (k : Kl H H') : ∀ {vs : List V} {ds : List PyData}, DtAll H vs ds → DtAll H' vs ds
  | _, _, .nil => .nil
  | _, _, .cons h r => .cons (h.kl k) (DtAll.kl k r)
end
mutual
theorem Dt.dp {K : PySem.W.Frag} {H : Hp} : ∀ {v : V} {d : PyData}, Dt H v d → Dp K H v d
  | _, _, .int i => .int i
  | _, _, .str x => .str x
  | _, _, .tup h r => .tup (k_st h) (DtAll.dp r)
theorem DtAll.dp {K : PySem.W.Frag} {H : Hp} : ∀ {vs : List V} {ds : List PyData}, DtAll H vs ds → DpAll K H vs ds
  | _, _, .nil => .nil
  | _, _, .cons h r => .cons h.dp (DtAll.dp r)
end
abbrev DtS (H : Hp) (ys : List V) (ds : List PyData) : Prop := AllAt Dt H ys ds
theorem DtS.all {H : Hp} : ∀ {ys : List V} {ds : List PyData}, DtS H ys ds → DtAll H ys ds
  | [], [], _ => .nil
  | y :: ys, d :: ds, h => .cons h.tail.1 (DtS.all h.tail.2)
  | [], d :: ds, h => by have := h.1; simp at this
  | y :: ys, [], h => by have := h.1; simp at this
theorem DtS.kl {H H' : Hp} {ys : List V} {ds : List PyData} (h : DtS H ys ds) (k : Kl H H') : DtS H' ys ds := h.imp fun y c q => q.kl k
theorem dt_ofB {α : Type} {P : Hp → V → α → Prop} {H : Hp} {f : α → PyData} (g : ∀ y c, P H y c → Dt H y (f c)) : ∀ {xs : List V} {cs : List α}, AllAt P H xs cs → DtAll H xs (cs.map f)
  | [], [], _ => .nil
  | y :: ys, d :: ds, h => .cons (g _ _ h.tail.1) (dt_ofB g h.tail.2)
  | [], d :: ds, h => by have := h.1; simp at this
  | y :: ys, [], h => by have := h.1; simp at this
theorem dt_ints {H : Hp} : ∀ ns : List Int, DtAll H (ns.map V.int) (ns.map .int)
  | [] => .nil
  | n :: ns => .cons (.int n) (dt_ints ns)
theorem dt_strs {H : Hp} : ∀ rs : Fl, DtAll H (rowsV rs) (rs.map fun r => .str (tx r))
  | [] => .nil
  | r :: rs => .cons (.str _) (dt_strs rs)
theorem EdAt.dt {H : Hp} {y : V} {e : Edge} (h : EdAt H y e) : Dt H y (edQ e) := by
  obtain ⟨a, rfl, z⟩ := h
  exact .tup z (.cons (.int _) (.cons (.int _) (.cons (.str _) .nil)))
theorem CkAt.dt {H : Hp} {y : V} {c : Ck} (h : CkAt H y c) : Dt H y (.tuple [.int c.1, .int c.2]) := by
  obtain ⟨a, rfl, z⟩ := h
  exact .tup z (.cons (.int _) (.cons (.int _) .nil))
theorem RoAt.dt {H : Hp} {y : V} {r : RowG} (h : RoAt H y r) : Dt H y (rowTD r) := by
  obtain ⟨a, y1, y2, rfl, z, ⟨a1, rfl, z1⟩, ⟨a2, rfl, z2⟩⟩ := h
  exact .tup z (.cons (.tup z1 (dt_ints _)) (.cons (.tup z2 (dt_ints _)) .nil))
theorem k_eqT {K : PySem.W.Frag} {H : Hp} {Q : VK} {x y : V} {d e : PyData} (h1 : Dt H x d) (h2 : Dt H y e) (l1 : Lays 64 d) (l2 : Lays 64 e) (q : Q (.bl (d.eqv e)) H) : rEqD K x y H Q := ⟨d, e, h1.dp, h2.dp, l1.shaped, l2.shaped, q⟩
theorem k_neT {K : PySem.W.Frag} {H : Hp} {Q : VK} {x y : V} {d e : PyData} (h1 : Dt H x d) (h2 : Dt H y e) (l1 : Lays 64 d) (l2 : Lays 64 e) (q : Q (.bl (!d.eqv e)) H) : rNeD K x y H Q := ⟨d, e, h1.dp, h2.dp, l1.shaped, l2.shaped, q⟩
end Mine
namespace Mine
open PySem PySem.Spec PyProof.Rows L2
open Evl (Ex)
/-! games and their turned games: relations that are closed under the options -/
def Img (R : Int → Int → Prop) (as bs : List Int) : Prop := (∀ x ∈ as, ∃ y ∈ bs, R x y) ∧ ∀ y ∈ bs, ∃ x ∈ as, R x y
def Bis (G : List Pr) (R : Int → Int → Prop) : Prop := ∀ i j, R i j → ∃ (a b : Nat) (g h : Pr), i = a ∧ j = b ∧ G[a]? = some g ∧ G[b]? = some h ∧ Img R g.2 h.1 ∧ Img R g.1 h.2
theorem Img.mono {R S : Int → Int → Prop} {as bs : List Int} (f : ∀ i j, R i j → S i j) (x : Img R as bs) : Img S as bs :=
  ⟨fun i m => let ⟨j, mj, r⟩ := x.1 i m; ⟨j, mj, f _ _ r⟩, fun j m => let ⟨i, mi, r⟩ := x.2 j m; ⟨i, mi, f _ _ r⟩⟩
theorem Img.conv {R : Int → Int → Prop} {as bs : List Int} (x : Img R as bs) : Img (fun i j => R j i) bs as := ⟨x.2, x.1⟩
theorem Bis.conv {G : List Pr} {R : Int → Int → Prop} (b : Bis G R) : Bis G (fun i j => R j i) := fun i j r =>
  let ⟨a, c, g, h, ea, ec, hg, hh, i1, i2⟩ := b j i r
  ⟨c, a, h, g, ec, ea, hh, hg, i2.conv, i1.conv⟩
theorem Bis.goes {G G' : List Pr} {R : Int → Int → Prop} (b : Bis G R) (go : ∀ (i : Nat) (g : Pr), G[i]? = some g → G'[i]? = some g) : Bis G' R := fun i j r =>
  let ⟨a, c, g, h, ea, ec, hg, hh, i1, i2⟩ := b i j r
  ⟨a, c, g, h, ea, ec, go _ _ hg, go _ _ hh, i1, i2⟩
/-- R and a pair more, both ways round -/
def With (R : Int → Int → Prop) (f t : Int) : Int → Int → Prop := fun i j => R i j ∨ (i = f ∧ j = t) ∨ (i = t ∧ j = f)
def Wit1 (R : Int → Int → Prop) (f t : Int) : Int → Int → Prop := fun i j => R i j ∨ (i = f ∧ j = t)
theorem Bis.more1 {G : List Pr} {R : Int → Int → Prop} {f t : Nat} {g h : Pr} (b : Bis G R) (hg : G[f]? = some g) (hh : G[t]? = some h) (i1 : Img R g.2 h.1) (i2 : Img R g.1 h.2) : Bis G (Wit1 R f t) := by
  have up : ∀ i j, R i j → Wit1 R f t i j := fun _ _ r => Or.inl r
  rintro i j (r | ⟨rfl, rfl⟩)
  · obtain ⟨a, c, g, h, ea, ec, hg, hh, i1, i2⟩ := b i j r
    exact ⟨a, c, g, h, ea, ec, hg, hh, i1.mono up, i2.mono up⟩
  · exact ⟨f, t, g, h, rfl, rfl, hg, hh, i1.mono up, i2.mono up⟩
theorem Bis.more {G : List Pr} {R : Int → Int → Prop} {f t : Nat} {g h : Pr} (b : Bis G R) (s : ∀ i j, R i j → R j i) (hg : G[f]? = some g) (hh : G[t]? = some h) (i1 : Img R g.2 h.1) (i2 : Img R g.1 h.2) : Bis G (With R f t) := by
  have up : ∀ i j, R i j → With R f t i j := fun _ _ r => Or.inl r
  have sy : ∀ i j, R j i → With R f t i j := fun i j r => Or.inl (s _ _ r)
  rintro i j (r | ⟨rfl, rfl⟩ | ⟨rfl, rfl⟩)
  · obtain ⟨a, c, g, h, ea, ec, hg, hh, i1, i2⟩ := b i j r
    exact ⟨a, c, g, h, ea, ec, hg, hh, i1.mono up, i2.mono up⟩
  · exact ⟨f, t, g, h, rfl, rfl, hg, hh, i1.mono up, i2.mono up⟩
  · exact ⟨t, f, h, g, rfl, rfl, hh, hg, i2.conv.mono sy, i1.conv.mono sy⟩
theorem With.symm {R : Int → Int → Prop} {f t : Int} (s : ∀ i j, R i j → R j i) : ∀ i j, With R f t i j → With R f t j i := by
  rintro i j (r | ⟨e1, e2⟩ | ⟨e1, e2⟩)
  · exact Or.inl (s _ _ r)
  · exact Or.inr (Or.inr ⟨e2, e1⟩)
  · exact Or.inr (Or.inl ⟨e2, e1⟩)
theorem side_one {R S : Int → Int → Prop} {as bs cs : List Int} {a : Nat} (ih : ∀ x : Nat, x < a → ∀ j j', R x j → S x j' → j = j') (la : Asc a as) (x : Img R as bs) (y : Img S as cs) (ab : bs.Pairwise (· < ·)) (ac : cs.Pairwise (· < ·)) : bs = cs := by
  have key : ∀ z ∈ as, ∀ j j', R z j → S z j' → j = j' := fun z mz j j' r s => by
    have bz := la.2 z mz
    obtain ⟨zn, rfl⟩ : ∃ n : Nat, z = n := ⟨z.toNat, by omega⟩
    exact ih zn (by omega) j j' r s
  refine asc_ext ab ac fun k => ⟨fun m => ?_, fun m => ?_⟩
  · obtain ⟨z, mz, r⟩ := x.2 k m
    obtain ⟨k', mk', s⟩ := y.1 z mz
    rw [key z mz k k' r s]; exact mk'
  · obtain ⟨z, mz, s⟩ := y.2 k m
    obtain ⟨k', mk', r⟩ := x.1 z mz
    rw [← key z mz k' k r s]; exact mk'
theorem Bis.one {G : List Pr} {R S : Int → Int → Prop} (f : Forms G) (b : Bis G R) (b' : Bis G S) : ∀ n a : Nat, a < n → ∀ j j', R a j → S a j' → j = j' := by
  intro n
  induction n with
  | zero => intro a h; exact absurd h (Nat.not_lt_zero _)
  | succ n ih =>
    intro a ha j j' r s
    obtain ⟨a1, c1, g, h, ea, rfl, hg, hh, i1, i2⟩ := b _ _ r
    obtain ⟨a2, c2, g', h', ea', rfl, hg', hh', i1', i2'⟩ := b' _ _ s
    have e1 : a1 = a := by omega
    have e2 : a2 = a := by omega
    subst e1; subst e2
    rw [hg] at hg'
    injection hg' with hg'
    subst hg'
    obtain ⟨as1, as2⟩ := f.asc _ _ hg
    obtain ⟨bs1, bs2⟩ := f.asc _ _ hh
    obtain ⟨cs1, cs2⟩ := f.asc _ _ hh'
    have ih' : ∀ x : Nat, x < a2 → ∀ j j', R x j → S x j' → j = j' := fun x hx => ih x (by omega)
    have e1 := side_one ih' as2 i1 i1' bs1.1 cs1.1
    have e2 := side_one ih' as1 i2 i2' bs2.1 cs2.1
    have eh : h = h' := Prod.ext e1 e2
    subst eh
    rw [nodup_at f.one hh hh']
theorem Bis.fn {G : List Pr} {R S : Int → Int → Prop} (f : Forms G) (b : Bis G R) (b' : Bis G S) {i j j' : Int} (r : R i j) (s : S i j') : j = j' := by
  obtain ⟨a, _, _, _, rfl, _⟩ := b _ _ r
  exact Bis.one f b b' (a + 1) a (Nat.lt_succ_self _) _ _ r s
theorem Bis.nj {G : List Pr} {R S : Int → Int → Prop} (f : Forms G) (b : Bis G R) (b' : Bis G S) {i i' j : Int} (r : R i j) (s : S i' j) : i = i' := Bis.fn f b.conv b'.conv (i := j) r s
theorem isHt_iff {hs : List Int} {g h : Pr} {x y : Int} (gx : IsHt hs g x) (hy : IsHt hs h y) (e : ∀ z, z ∈ (g.1 ++ g.2).map (hat hs) ↔ z ∈ (h.1 ++ h.2).map (hat hs)) : x = y := by
  rcases gx with ⟨n1, rfl⟩ | ⟨m, mm, ml, rfl⟩
  · rcases hy with ⟨_, rfl⟩ | ⟨m', mm', _⟩
    · rfl
    · have := (e m').mpr mm'
      rw [n1] at this
      simp at this
  · rcases hy with ⟨n2, rfl⟩ | ⟨m', mm', ml', rfl⟩
    · have := (e m).mp mm
      rw [n2] at this
      simp at this
    · have a := ml' m ((e m).mp mm)
      have b := ml m' ((e m').mpr mm')
      omega
theorem Bis.ht {G : List Pr} {hs : List Int} {R : Int → Int → Prop} (f : Forms G) (o : HtOk G hs) (b : Bis G R) : ∀ n a : Nat, a < n → ∀ j, R a j → hat hs a = hat hs j := by
  intro n
  induction n with
  | zero => intro a h; exact absurd h (Nat.not_lt_zero _)
  | succ n ih =>
    intro a ha j r
    obtain ⟨a1, c1, g, h, ea, rfl, hg, hh, i1, i2⟩ := b _ _ r
    have e1 : a1 = a := by omega
    subst e1
    obtain ⟨as1, as2⟩ := f.asc _ _ hg
    have key : ∀ z ∈ g.1 ++ g.2, ∀ j, R z j → hat hs z = hat hs j := fun z mz j r => by
      have bz := Asc.both as1 as2 z mz
      obtain ⟨zn, rfl⟩ : ∃ n : Nat, z = n := ⟨z.toNat, by omega⟩
      exact ih zn (by omega) j r
    refine isHt_iff (o _ _ hg) (o _ _ hh) fun z => ?_
    rw [List.mem_map, List.mem_map]
    constructor
    · rintro ⟨x, mx, rfl⟩
      rcases List.mem_append.mp mx with m | m
      · obtain ⟨y, my, r⟩ := i2.1 x m
        exact ⟨y, List.mem_append_right _ my, (key x mx y r).symm⟩
      · obtain ⟨y, my, r⟩ := i1.1 x m
        exact ⟨y, List.mem_append_left _ my, (key x mx y r).symm⟩
    · rintro ⟨y, my, rfl⟩
      rcases List.mem_append.mp my with m | m
      · obtain ⟨x, mx, r⟩ := i1.2 y m
        exact ⟨x, List.mem_append_right _ mx, key x (List.mem_append_right _ mx) y r⟩
      · obtain ⟨x, mx, r⟩ := i2.2 y m
        exact ⟨x, List.mem_append_left _ mx, key x (List.mem_append_left _ mx) y r⟩
/-! the dict of the turned games -/
def gr (ts : List (Key × V)) (i j : Int) : Prop := valV ts (Sum.inl i) = some (V.int j)
structure TOk (G : List Pr) (ts : List (Key × V)) : Prop where
  bis : Bis G (gr ts)
  sym : ∀ i j, gr ts i j → gr ts j i
  ns : ∀ i, dkey ts i = true → ∃ j, gr ts i j
theorem gr_key {ts : List (Key × V)} {i j : Int} (r : gr ts i j) : dkey ts i = true := by unfold dkey; rw [r]; rfl
/-! how many are not turned yet -/
def Un (n : Nat) (dk : Int → Bool) : Nat := ((nums n).filter fun i => !dk i).length
theorem nums_nodup (n : Nat) : (nums n).Nodup := (nums_asc n).1.imp fun h => Int.ne_of_lt h
theorem un_mono {n : Nat} {dk dk' : Int → Bool} (h : ∀ i, dk i = true → dk' i = true) : Un n dk' ≤ Un n dk :=
  nodup_le _ _ ((nums_nodup n).filter _) fun x m => by
    rw [List.mem_filter] at m ⊢
    refine ⟨m.1, ?_⟩
    cases e : dk x with
    | false => rfl
    | true => have := m.2; rw [h x e] at this; cases this
theorem un_lt {n : Nat} {dk dk' : Int → Bool} {a : Int} (h : ∀ i, dk i = true → dk' i = true) (ha : 0 ≤ a ∧ a < n) (h0 : dk a = false) (h1 : dk' a = true) : Un n dk' + 1 ≤ Un n dk := by
  have z := nodup_le (a :: (nums n).filter fun i => !dk' i) ((nums n).filter fun i => !dk i) (List.nodup_cons.mpr ⟨fun m => (by
    have := (List.mem_filter.mp m).2
    rw [h1] at this; cases this), (nums_nodup n).filter _⟩) fun x m => by
    rcases List.mem_cons.mp m with rfl | m
    · exact List.mem_filter.mpr ⟨mem_nums.mpr ha, by rw [h0]; rfl⟩
    · rw [List.mem_filter] at m ⊢
      refine ⟨m.1, ?_⟩
      cases e : dk x with
      | false => rfl
      | true => have := m.2; rw [h x e] at this; cases this
  rw [List.length_cons] at z
  exact z
theorem un_succ (n : Nat) (dk : Int → Bool) : Un (n + 1) dk ≤ Un n dk + 1 := by
  unfold Un
  rw [nums_succ, List.filter_append, List.length_append]
  have : ([(n : Int)].filter fun i => !dk i).length ≤ 1 := Nat.le_trans (List.length_filter_le _ _) (Nat.le_refl _)
  omega
theorem un_key {n : Nat} {dk : Int → Bool} (h : dk (n : Int) = true) : Un (n + 1) dk = Un n dk := by
  unfold Un
  rw [nums_succ, List.filter_append, List.length_append]
  have e : ([(n : Int)].filter fun i => !dk i) = [] := by rw [List.filter_cons, h]; rfl
  rw [e]; rfl
def Phi (G : List Pr) (ts : List (Key × V)) : Nat := G.length + Un G.length (dkey ts)
theorem phi_le (G : List Pr) (ts : List (Key × V)) : G.length ≤ Phi G ts := Nat.le_add_right _ _
theorem phi_put {G G' : List Pr} {p : Pr} {i : Int} {ts : List (Key × V)} (h : Put G p i G') : Phi G' ts ≤ Phi G ts + 2 := by
  rcases h with ⟨_, _, _, rfl⟩ | ⟨_, _, rfl⟩
  · omega
  · unfold Phi
    have := un_succ G.length (dkey ts)
    rw [List.length_append, List.length_singleton]
    omega
end Mine
namespace Mine
open PySem PySem.Spec PyProof.Rows L2
open Evl (Ex)
theorem val_put (ts : List (Key × V)) (k j : Int) (v : V) : valV (putK ts (Sum.inl k) v) (Sum.inl j) = if j = k then some v else valV ts (Sum.inl j) := by
  rw [valV_put]
  by_cases h : j = k
  · subst h; rw [if_pos rfl, if_pos rfl]
  · rw [if_neg (fun e => h (Sum.inl.inj e)), if_neg h]
theorem dkey_put (ts : List (Key × V)) (k j : Int) (v : V) : dkey (putK ts (Sum.inl k) v) j = (decide (j = k) || dkey ts j) := by
  unfold dkey
  rw [val_put]
  by_cases h : j = k
  · rw [if_pos h, decide_eq_true h]; rfl
  · rw [if_neg h, decide_eq_false h]; rfl
theorem dkey_up (ts : List (Key × V)) (k : Int) (v : V) (i : Int) (h : dkey ts i = true) : dkey (putK ts (Sum.inl k) v) i = true := by rw [dkey_put, h, Bool.or_true]
theorem put_len (ts : List (Key × V)) {k : Int} (v : V) {n : Nat} (hk : 0 ≤ k ∧ k < n) : (putK ts (Sum.inl k) v).length + Un n (dkey (putK ts (Sum.inl k) v)) ≤ ts.length + Un n (dkey ts) := by
  have m := un_mono (n := n) (dkey_up ts k v)
  cases e : dkey ts k with
  | true =>
    have l : (putK ts (Sum.inl k) v).length = ts.length := by
      unfold putK
      rw [if_pos (by rw [valV_any]; exact e), List.length_map]
    omega
  | false =>
    have l : (putK ts (Sum.inl k) v).length = ts.length + 1 := by
      unfold putK
      rw [if_neg (by rw [valV_any]; intro z; unfold dkey at e; rw [e] at z; cases z), List.length_append]
      rfl
    have := un_lt (n := n) (dkey_up ts k v) hk e (by rw [dkey_put, decide_eq_true rfl]; rfl)
    omega
def LenOk (G : List Pr) (ts : List (Key × V)) : Prop := ts.length + Un G.length (dkey ts) ≤ G.length
theorem LenOk.put {G G' : List Pr} {p : Pr} {i : Int} {ts : List (Key × V)} (l : LenOk G ts) (h : Put G p i G') : LenOk G' ts := by
  rcases h with ⟨_, _, _, rfl⟩ | ⟨_, _, rfl⟩
  · exact l
  · unfold LenOk at *
    have := un_succ G.length (dkey ts)
    rw [List.length_append, List.length_singleton]
    omega
theorem LenOk.few {G : List Pr} {ts : List (Key × V)} (l : LenOk G ts) : ts.length ≤ G.length := by unfold LenOk at l; omega
theorem TOk.goes {G G' : List Pr} {ts : List (Key × V)} (T : TOk G ts) (go : ∀ (i : Nat) (g : Pr), G[i]? = some g → G'[i]? = some g) : TOk G' ts := ⟨T.bis.goes go, T.sym, T.ns⟩
/-- the dict behind two entries more -/
def two (ts : List (Key × V)) (f t : Int) : List (Key × V) := putK (putK ts (Sum.inl f) (V.int t)) (Sum.inl t) (V.int f)
theorem TOk.two {G : List Pr} {ts : List (Key × V)} (T : TOk G ts) (F : Forms G) {f t : Nat} {g h : Pr} (hg : G[f]? = some g) (hh : G[t]? = some h) (i1 : Img (gr ts) g.2 h.1) (i2 : Img (gr ts) g.1 h.2) :
    TOk G (two ts f t) ∧ gr (two ts f t) f t ∧ ∀ i, dkey (two ts f t) i = (decide (i = (t : Int)) || (decide (i = (f : Int)) || dkey ts i)) := by
  have bS := T.bis.more T.sym hg hh i1 i2
  have val : ∀ i, valV (Mine.two ts f t) (Sum.inl i) = if i = (t : Int) then some (V.int f) else if i = (f : Int) then some (V.int t) else valV ts (Sum.inl i) := fun i => by
    unfold Mine.two
    rw [val_put, val_put]
  have iff : ∀ i j, gr (Mine.two ts f t) i j ↔ With (gr ts) f t i j := fun i j => by
    unfold gr
    rw [val]
    constructor
    · intro e
      by_cases h1 : i = (t : Int)
      · rw [if_pos h1] at e
        injection e with e
        injection e with e
        exact Or.inr (Or.inr ⟨h1, e.symm⟩)
      · rw [if_neg h1] at e
        by_cases h2 : i = (f : Int)
        · rw [if_pos h2] at e
          injection e with e
          injection e with e
          exact Or.inr (Or.inl ⟨h2, e.symm⟩)
        · rw [if_neg h2] at e
          exact Or.inl e
    · intro r
      by_cases h1 : i = (t : Int)
      · subst h1
        rw [if_pos rfl, Bis.fn F bS bS r (show With (gr ts) f t t f from Or.inr (Or.inr ⟨rfl, rfl⟩))]
      · rw [if_neg h1]
        by_cases h2 : i = (f : Int)
        · subst h2
          rw [if_pos rfl, Bis.fn F bS bS r (show With (gr ts) f t f t from Or.inr (Or.inl ⟨rfl, rfl⟩))]
        · rw [if_neg h2]
          rcases r with r | ⟨e, _⟩ | ⟨e, _⟩
          · exact r
          · exact absurd e h2
          · exact absurd e h1
  have dk : ∀ i, dkey (Mine.two ts f t) i = (decide (i = (t : Int)) || (decide (i = (f : Int)) || dkey ts i)) := fun i => by
    unfold Mine.two
    rw [dkey_put, dkey_put]
  refine ⟨⟨fun i j r => ?_, fun i j r => (iff j i).mpr (With.symm T.sym i j ((iff i j).mp r)), fun i d => ?_⟩, (iff _ _).mpr (Or.inr (Or.inl ⟨rfl, rfl⟩)), dk⟩
  · obtain ⟨a, b, g, h, ea, eb, hg, hh, j1, j2⟩ := bS i j ((iff i j).mp r)
    exact ⟨a, b, g, h, ea, eb, hg, hh, j1.mono fun i j => (iff i j).mpr, j2.mono fun i j => (iff i j).mpr⟩
  · rw [dk, Bool.or_eq_true, Bool.or_eq_true, decide_eq_true_eq, decide_eq_true_eq] at d
    rcases d with rfl | rfl | d
    · exact ⟨_, (iff _ _).mpr (Or.inr (Or.inr ⟨rfl, rfl⟩))⟩
    · exact ⟨_, (iff _ _).mpr (Or.inr (Or.inl ⟨rfl, rfl⟩))⟩
    · obtain ⟨j, r⟩ := T.ns i d
      exact ⟨j, (iff _ _).mpr (Or.inl r)⟩
/-- a game in the dict has its turned game already -/
theorem TOk.there {G : List Pr} {ts : List (Key × V)} (T : TOk G ts) (F : Forms G) {f : Nat} {g p : Pr} (hg : G[f]? = some g) (d : dkey ts f = true) (i1 : Img (gr ts) g.2 p.1) (i2 : Img (gr ts) g.1 p.2) (a1 : p.1.Pairwise (· < ·)) (a2 : p.2.Pairwise (· < ·)) : p ∈ G := by
  obtain ⟨j, r⟩ := T.ns f d
  obtain ⟨a, b, g', h, ea, rfl, hg', hh, j1, j2⟩ := T.bis f j r
  have e : a = f := by omega
  subst e
  rw [hg] at hg'
  injection hg' with hg'
  subst hg'
  obtain ⟨as1, as2⟩ := F.asc _ _ hg
  obtain ⟨bs1, bs2⟩ := F.asc _ _ hh
  have ih : ∀ x : Nat, x < a → ∀ j j', gr ts x j → gr ts x j' → j = j' := fun x _ j j' r s => Bis.fn F T.bis T.bis r s
  have e1 := side_one ih as2 i1 j1 a1 bs1.1
  have e2 := side_one ih as1 i2 j2 a2 bs2.1
  have : p = h := Prod.ext e1 e2
  rw [this]
  exact List.mem_of_getElem? hh
def tvF (ts : List (Key × V)) : V → Option V := fun v => match v with | .int k => valV ts (Sum.inl k) | _ => none
theorem tv_list {ts : List (Key × V)} (ns : ∀ i, dkey ts i = true → ∃ j, gr ts i j) (inj : ∀ x x' y, gr ts x y → gr ts x' y → x = x') : ∀ l : List Int, l.Nodup → (∀ o ∈ l, dkey ts o = true) → ∃ ls : List Int, (l.map V.int).filterMap (tvF ts) = ls.map V.int ∧ Img (gr ts) l ls ∧ ls.Nodup ∧ ls.length = l.length
  | [], _, _ => ⟨[], rfl, ⟨fun x m => (nomatch m), fun x m => (nomatch m)⟩, .nil, rfl⟩
  | x :: l, nd, h => by
    obtain ⟨n1, n2⟩ := List.nodup_cons.mp nd
    obtain ⟨ls, e, im, nn, ll⟩ := tv_list ns inj l n2 fun o m => h o (List.mem_cons_of_mem _ m)
    obtain ⟨y, r⟩ := ns x (h x List.mem_cons_self)
    have ex : tvF ts (V.int x) = some (V.int y) := r
    refine ⟨y :: ls, by rw [List.map_cons, List.filterMap_cons, ex, e]; rfl, ⟨fun z m => ?_, fun z m => ?_⟩, List.nodup_cons.mpr ⟨fun m => ?_, nn⟩, by rw [List.length_cons, List.length_cons, ll]⟩
    · rcases List.mem_cons.mp m with rfl | m
      · exact ⟨y, List.mem_cons_self, r⟩
      · obtain ⟨w, mw, q⟩ := im.1 z m
        exact ⟨w, List.mem_cons_of_mem _ mw, q⟩
    · rcases List.mem_cons.mp m with rfl | m
      · exact ⟨x, List.mem_cons_self, r⟩
      · obtain ⟨w, mw, q⟩ := im.2 z m
        exact ⟨w, List.mem_cons_of_mem _ mw, q⟩
    · obtain ⟨w, mw, q⟩ := im.2 y m
      have := inj _ _ _ r q
      subst this
      exact n1 mw
theorem Img.perm {R : Int → Int → Prop} {as bs cs : List Int} (x : Img R as bs) (p : cs.Perm bs) : Img R as cs :=
  ⟨fun i m => let ⟨j, mj, r⟩ := x.1 i m; ⟨j, p.mem_iff.mpr mj, r⟩, fun j m => x.2 j (p.mem_iff.mp m)⟩
/-- the yard with another dict of the turned games -/
theorem YardAt.setT {P : Program} {w : World} {K : PySem.W.Frag} {H : Hp} {F : Foot} {G : List Pr} {hs : List Int} {ts ts' : List (Key × V)} (Y : YardAt P w K H F G hs ts) : YardAt P w K (upd H F.t (.dK ts')) F G hs ts' := by
  have k : ∀ c o, H c = some o → c ≠ F.t → upd H F.t (.dK ts') c = some o := fun c o z y => (upd_ne y).trans z
  have t : ∀ c zs, H c = some (.tup zs) → upd H F.t (.dK ts') c = some (.tup zs) := fun c zs z => k _ _ z (ne_of z Y.ts (by intro y; cases y))
  exact ⟨k _ _ Y.ins (ne_of Y.ins Y.ts (by intro y; cases y)), let ⟨xs, h1, h2⟩ := Y.ls; ⟨xs, k _ _ h1 (ne_of h1 Y.ts (by intro y; cases y)), h2.ex t⟩, let ⟨xs, h1, h2⟩ := Y.rs; ⟨xs, k _ _ h1 (ne_of h1 Y.ts (by intro y; cases y)), h2.ex t⟩,
    ⟨k _ _ Y.hs.1 (ne_of Y.hs.1 Y.ts (by intro y; cases y)), Y.hs.2⟩, let ⟨kvs, h1, h2, h3⟩ := Y.ns; ⟨kvs, k _ _ h1 (ne_of h1 Y.ts (by intro y; cases y)), fun x m => (h2 x m).ex t, h3⟩, upd_same, Y.ne, Y.ht, Y.G⟩
end Mine
namespace Mine
open PySem PySem.Spec PyProof.Rows L2
open Evl (Ex)
theorem Bis.iff {G : List Pr} {R S : Int → Int → Prop} (b : Bis G R) (e : ∀ i j, R i j ↔ S i j) : Bis G S := fun i j s =>
  let ⟨a, c, g, h, ea, ec, hg, hh, i1, i2⟩ := b i j ((e i j).mpr s)
  ⟨a, c, g, h, ea, ec, hg, hh, i1.mono fun i j => (e i j).mp, i2.mono fun i j => (e i j).mp⟩
/-- a list as a relation: place and item -/
def Rd (dl : List Int) (i j : Int) : Prop := ∃ n : Nat, i = n ∧ dl[n]? = some j
theorem rd_snoc (dl : List Int) (t i j : Int) : Wit1 (Rd dl) dl.length t i j ↔ Rd (dl ++ [t]) i j := by
  constructor
  · rintro (⟨n, rfl, h⟩ | ⟨rfl, rfl⟩)
    · exact ⟨n, rfl, by rw [List.getElem?_append_left (List.getElem?_eq_some_iff.mp h).1]; exact h⟩
    · exact ⟨dl.length, rfl, by rw [List.getElem?_append_right (Nat.le_refl _), Nat.sub_self]; rfl⟩
  · rintro ⟨n, rfl, h⟩
    rcases Nat.lt_or_ge n dl.length with l | l
    · rw [List.getElem?_append_left l] at h
      exact Or.inl ⟨n, rfl, h⟩
    · have l2 := (List.getElem?_eq_some_iff.mp h).1
      rw [List.length_append, List.length_singleton] at l2
      have e : n = dl.length := by omega
      subst e
      rw [List.getElem?_append_right (Nat.le_refl _), Nat.sub_self] at h
      injection h with h
      exact Or.inr ⟨rfl, h.symm⟩
def fd (dl : List Int) (k : Int) : Int := dl.getD k.toNat 0
theorem rd_fd {dl : List Int} {k : Int} (h0 : 0 ≤ k) (h1 : k < dl.length) : Rd dl k (fd dl k) := ⟨k.toNat, by omega, by
  unfold fd
  rw [List.getD_eq_getElem?_getD, List.getElem?_eq_getElem (by omega)]; rfl⟩
theorem rd_one {dl : List Int} {i j : Int} (r : Rd dl i j) : j = fd dl i := by
  obtain ⟨n, rfl, h⟩ := r
  unfold fd
  rw [Int.toNat_natCast, List.getD_eq_getElem?_getD, h]; rfl
theorem fd_at {dl : List Int} {k : Int} (h0 : 0 ≤ k) (h1 : k < dl.length) : atI (dl.map V.int) k = some (V.int (fd dl k)) := by
  obtain ⟨z, _, e, f⟩ := atI_in (ls := dl) h0 h1
  rw [e, f]; rfl
theorem img_fd {dl as os : List Int} (b : ∀ x ∈ os, 0 ≤ x ∧ x < (dl.length : Int)) (e : ∀ k, k ∈ as ↔ k ∈ os.map (fd dl)) : Img (Rd dl) os as :=
  ⟨fun x m => ⟨fd dl x, (e _).mpr (List.mem_map.mpr ⟨x, m, rfl⟩), rd_fd (b x m).1 (b x m).2⟩, fun y m => by
    obtain ⟨x, mx, rfl⟩ := List.mem_map.mp ((e y).mp m)
    exact ⟨x, mx, rd_fd (b x mx).1 (b x mx).2⟩⟩
end Mine
namespace Mine
open PySem PySem.Spec PyProof.Rows L2
theorem sorted_eq {dl os h ns' : List Int} (pm : ns'.Perm (os.map (fd dl))) (le : ns'.Pairwise (· ≤ ·)) (nd : os.Nodup) (inj : ∀ x ∈ os, ∀ y ∈ os, fd dl x = fd dl y → x = y) (im : Img (Rd dl) os h) (ah : h.Pairwise (· < ·)) : ns' = h := by
  have nn : (os.map (fd dl)).Nodup := List.pairwise_map.mpr (List.Pairwise.imp_of_mem (fun {a b} ma mb (n : a ≠ b) e => n (inj a ma b mb e)) nd)
  refine asc_ext (L2.lt_of_le_nodup ns' le (pm.nodup_iff.mpr nn)) ah fun k => ?_
  rw [pm.mem_iff, List.mem_map]
  constructor
  · rintro ⟨x, mx, rfl⟩
    obtain ⟨y, my, r⟩ := im.1 x mx
    rw [← rd_one r]; exact my
  · intro m
    obtain ⟨x, mx, r⟩ := im.2 k m
    exact ⟨x, mx, (rd_one r).symm⟩
end Mine
namespace Mine
open PySem PySem.Spec PyProof.Rows L2
open Evl (Ex)
/-! numbers of very many bits -/
def CMulB (i j : Int) : Prop := i.natAbs.log2 + j.natAbs.log2 < 100000000
theorem bits_log (x : Int) : Builtin.Int.intBits x ≤ x.natAbs.log2 + 1 := by
  unfold Builtin.Int.intBits
  split <;> omega
theorem log_bits (x : Int) : x.natAbs.log2 ≤ Builtin.Int.intBits x := by
  unfold Builtin.Int.intBits
  split
  · rename_i h
    have h : x = 0 := by simpa using h
    rw [h]; decide
  · omega
theorem CMulB.ok {i j : Int} (h : CMulB i j) : IntMulOk i j := by
  have h1 := bits_log i
  have h2 := bits_log j
  have h3 : i.natAbs.log2 + j.natAbs.log2 < 100000000 := h
  have line : bitsLine = 134217728 := by decide
  intro z
  have z2 := (Bool.and_eq_true _ _ ▸ z).2
  unfold Builtin.Int.intTooBig at z2
  have z3 := of_decide_eq_true z2
  rw [line] at z3
  omega
abbrev rMulB : R2 := rI CMulB fun i j => .int (i * j)
theorem op_mulB {X : Cx} : OpR X (binaryOp .Mult) rMulB := opI fun _ _ _ _ _ _ _ hc q => mul_int q hc.ok
/-- the end of a law, the script's bits told -/
theorem walk_bits {l : PySem.W.OpenLaw} {n k : Nat} {q : Program} {loose : List Str} {XP : (Str → Option Value) → Heap → Prop} {YP : World → Heap → Prop} {d : DefRec} {CX : CXT} {x : Str}
    (few : l.most = some n) (line : n ≤ sizeLine) (plain : d.params.defaults = []) (room : Room k callerA)
    (make : ∀ (w : World) (mg : Str → Option Value) (fa : Addr) (h : Heap), YP w h → h.Ns mainGlobals mg → mg d.name = some (.ref fa) →
      ∃ (K : PySem.W.Frag) (fd : FuncData) (sp : Sp), K.In h ∧ (∀ (s : Shared) (u : Value), BindsTo s fd ⟨[u], []⟩ [(x, u)]) ∧
        (∀ (H : Hp) (a : Addr) (ns : List Int), ns.length ≤ n → (∀ z ∈ ns, Builtin.Int.intBits z ≤ 1048576) → Only H → SqL K H a (ns.map V.int) → sp [.ref a] H (fun v _ => v = .bl true) fun _ _ _ => False) ∧
        ∀ base : Heap, K.In base → base.Ns mainGlobals mg → FnOk l.prog w K mg base CX k fa fd [x] sp)
    (calm : ∀ (H : Hp) (s : Shared) (e : Value) (s' : Shared), CX [] H s (fun _ _ _ => False) e s' → False) :
    PySem.W.WalkO q loose XP YP l.row.toRowW d [] (fun f vs => PySem.call f vs) := by
  refine Att.attach_callB few plain fun w s₀ s₁ mg mb fa o pm cd doc a vs ns G Y ho hd hcd hmg hobj isI hlen bits hg => ?_
  obtain ⟨K, fd, sp, KX, hb, ask, hF⟩ := make w mg fa _ Y G.T.g hmg
  exact law_call KX G.T.g G.T.b G.T.builtins G.T.nolimit hg hobj isI (Nat.le_trans hlen line) room hF hb (fun H hO hS => ask H a ns hlen bits hO hS) fun H e s' => calm H s₁ e s'
end Mine
namespace Mine
open PySem PySem.Spec PyProof.Rows L2
open Evl (Ex)
/-! rows of games, each with the one before it as its only option -/
def OddAt (m : Int) (k : Nat) : Prop := Builtin.bitAnd (m / 2 ^ (k : Int).toNat) 1 = 1
theorem oddAt_iff (m : Int) (k : Nat) : OddAt m k ↔ m / 2 ^ k % 2 = 1 := by
  unfold OddAt
  rw [bitAnd_m1, Int.toNat_natCast]
theorem oddAt_not {m : Int} {k : Nat} (hk : k < 100) : OddAt (2 ^ 100 - 1 - m) k ↔ ¬ OddAt m k := by
  rw [oddAt_iff, oddAt_iff]
  have e : (2 : Int) ^ 100 = 2 ^ k * (2 * 2 ^ (99 - k)) := by
    rw [← Int.pow_succ', ← Int.pow_add]
    congr 1
    omega
  rw [e]
  have hp : (0 : Int) < 2 ^ k := Int.pow_pos (by decide)
  have a1 := Int.emod_nonneg m (Int.ne_of_gt hp)
  have a2 := Int.emod_lt_of_pos m hp
  have a3 := Int.emod_add_mul_ediv m (2 ^ k)
  have z := ((Int.ediv_emod_unique (a := 2 ^ k * (2 * 2 ^ (99 - k)) - 1 - m) (b := 2 ^ k) (r := 2 ^ k - 1 - m % 2 ^ k) (q := 2 * 2 ^ (99 - k) - 1 - m / 2 ^ k) hp).mpr ⟨by
    rw [Int.mul_sub, Int.mul_sub, Int.mul_one]
    omega, by omega, by omega⟩).1
  rw [z]
  generalize m / 2 ^ k = q
  generalize (2 : Int) ^ (99 - k) = R
  omega
structure Chn (G : List Pr) (m : Int) (cs : List Int) : Prop where
  zero : cs[0]? = some 0
  step : ∀ k : Nat, k + 1 < cs.length → ∃ x y : Nat, cs[k]? = some (x : Int) ∧ cs[k + 1]? = some (y : Int) ∧ ((OddAt m k ∧ G[y]? = some ([(x : Int)], [])) ∨ (¬ OddAt m k ∧ G[y]? = some ([], [(x : Int)])))
theorem Chn.goes {G G' : List Pr} {m : Int} {cs : List Int} (c : Chn G m cs) (go : ∀ (i : Nat) (g : Pr), G[i]? = some g → G'[i]? = some g) : Chn G' m cs :=
  ⟨c.zero, fun k h => let ⟨x, y, hx, hy, z⟩ := c.step k h; ⟨x, y, hx, hy, z.imp (fun ⟨b, e⟩ => ⟨b, go _ _ e⟩) fun ⟨b, e⟩ => ⟨b, go _ _ e⟩⟩⟩
theorem Chn.snoc {G : List Pr} {m : Int} {cs : List Int} {n x y : Nat} (c : Chn G m cs) (l : cs.length = n + 1) (hx : cs[n]? = some (x : Int)) (h : (OddAt m n ∧ G[y]? = some ([(x : Int)], [])) ∨ (¬ OddAt m n ∧ G[y]? = some ([], [(x : Int)]))) : Chn G m (cs ++ [(y : Int)]) := by
  refine ⟨by rw [List.getElem?_append_left (by omega)]; exact c.zero, fun k hk => ?_⟩
  rw [List.length_append, List.length_singleton] at hk
  rcases Nat.lt_or_ge (k + 1) cs.length with lt | ge
  · obtain ⟨x, y, hx, hy, z⟩ := c.step k lt
    exact ⟨x, y, by rw [List.getElem?_append_left (by omega)]; exact hx, by rw [List.getElem?_append_left lt]; exact hy, z⟩
  · have e : k = n := by omega
    subst e
    exact ⟨x, y, by rw [List.getElem?_append_left (by omega)]; exact hx, by rw [← l, List.getElem?_append_right (Nat.le_refl _), Nat.sub_self]; rfl, h⟩
/-- two rows as a relation -/
def RC (cs ds : List Int) (i j : Int) : Prop := ∃ k : Nat, cs[k]? = some i ∧ ds[k]? = some j
theorem rc_bis {G : List Pr} {m m' : Int} {cs ds : List Int} (F : Forms G) (c : Chn G m cs) (d : Chn G m' ds) (len : cs.length = ds.length) (ne : ∀ k, k + 1 < cs.length → (OddAt m' k ↔ ¬ OddAt m k)) : Bis G (RC cs ds) := by
  rintro i j ⟨k, hi, hj⟩
  cases k with
  | zero =>
    have e1 : i = 0 := by have := c.zero; rw [hi] at this; exact Option.some.inj this
    have e2 : j = 0 := by have := d.zero; rw [hj] at this; exact Option.some.inj this
    subst e1; subst e2
    have nil : Img (RC cs ds) [] [] := ⟨fun x m => (nomatch m), fun x m => (nomatch m)⟩
    exact ⟨0, 0, _, _, rfl, rfl, F.zero, F.zero, nil, nil⟩
  | succ k =>
    have kl := (List.getElem?_eq_some_iff.mp hi).1
    obtain ⟨x, y, hx, hy, z⟩ := c.step k kl
    obtain ⟨x', y', hx', hy', z'⟩ := d.step k (by omega)
    rw [hi] at hy
    rw [hj] at hy'
    injection hy with hy
    injection hy' with hy'
    have nil : Img (RC cs ds) [] [] := ⟨fun x m => (nomatch m), fun x m => (nomatch m)⟩
    have one : Img (RC cs ds) [(x : Int)] [(x' : Int)] := ⟨fun a ma => by rw [List.mem_singleton.mp ma]; exact ⟨_, List.mem_singleton.mpr rfl, k, hx, hx'⟩, fun a ma => by rw [List.mem_singleton.mp ma]; exact ⟨_, List.mem_singleton.mpr rfl, k, hx, hx'⟩⟩
    have nk := ne k kl
    rcases z with ⟨b, e⟩ | ⟨b, e⟩
    · rcases z' with ⟨b', e'⟩ | ⟨b', e'⟩
      · exact absurd b (nk.mp b')
      · exact ⟨y, y', _, _, hy, hy', e, e', nil, one⟩
    · rcases z' with ⟨b', e'⟩ | ⟨b', e'⟩
      · exact ⟨y, y', _, _, hy, hy', e, e', one, nil⟩
      · exact absurd (nk.mpr b) b'
end Mine
namespace Mine
open PySem PySem.Spec PyProof.Rows L2
open Evl (Ex)
/-- a comprehension over a list whose items' reckoning changes the heap -/
theorem lcR_st {te : TE} {σ : L2.St} {Q : VK} {H1 : Hp} {K : PySem.W.Frag} {a : Addr} {xs : List V} {i : Nat} (St : Nat → List V → Hp → Prop) (hS : ∀ n acc H, St n acc H → SqL K H a xs) (len : xs.length < sizeLine)
    (mu : ∀ D n acc ys H H', H1 D = none → H D = some (.lst ys) → (∀ c o, H c = some o → c ≠ D → H' c = some o) → St n acc H → St n acc H') (h0 : ∀ D, H1 D = none → St 0 [] (upd H1 D (.lst [])))
    (hs : ∀ n x acc H D ys, H1 D = none → H D = some (.lst ys) → xs[n]? = some x → acc.length = n → St n acc H → ∀ R : VK, (∀ y H', H' D = some (.lst ys) → St (n + 1) (acc ++ [y]) H' → R y H') → te ((wipe σ [i]).set i (some x)) H R)
    (q : ∀ D acc H', H1 D = none → acc.length = xs.length → H' D = some (.lst acc) → St xs.length acc H' → Q (.ref D) H') (w : ∀ x, wipe ((wipe σ [i]).set i (some x)) [i] = wipe σ [i] := by intro x; rfl) : lcR (gName i) tYes te [i] σ Q (Itl K a) H1 := by
  intro D hD
  refine lc_list (K := K) (a := a) (xs := xs) (fun n H => ∃ acc : List V, acc.length = n ∧ H D = some (.lst acc) ∧ St n acc H) ⟨[], rfl, upd_same, h0 D hD⟩ (fun n H _ ⟨acc, _, _, s⟩ => hS n acc H s) (fun n x H hx ⟨acc, la, hd, s⟩ => ?_) (fun H ⟨acc, la, hd, s⟩ => q D acc H hD la hd s)
  refine ⟨w x, ?_⟩
  refine hs n x acc H D acc hD hd hx la s _ fun y H4 h4 s4 => ?_
  refine ⟨acc, h4, ?_, acc ++ [y], by rw [List.length_append, la]; rfl, upd_same, mu D _ _ acc H4 _ hD h4 (fun c o z n => (upd_ne n).trans z) s4⟩
  rw [la]
  exact Nat.lt_of_le_of_lt (Nat.le_of_lt (List.getElem?_eq_some_iff.mp hx).1) len
end Mine
namespace Mine
open PySem PySem.Spec PyProof.Rows L2
/-- the dict of a new yard -/
def ts0 : List (Key × V) := [(Sum.inl 0, V.int 0)]
theorem gr0 (i j : Int) : gr ts0 i j ↔ i = 0 ∧ j = 0 := by
  unfold gr ts0
  by_cases h : i = 0
  · subst h
    rw [valV_pos (p := ((Sum.inl 0 : Key), V.int 0)) rfl]
    constructor
    · intro e; injection e with e; injection e with e; exact ⟨rfl, e.symm⟩
    · rintro ⟨_, rfl⟩; rfl
  · rw [valV_neg (p := ((Sum.inl 0 : Key), V.int 0)) (fun e => h (Sum.inl.inj e).symm)]
    constructor
    · intro e; cases e
    · rintro ⟨e, _⟩; exact absurd e h
theorem key0 : dkey ts0 0 = true := rfl
theorem tok0 {G : List Pr} (F : Forms G) : TOk G ts0 := by
  refine ⟨fun i j r => ?_, fun i j r => (gr0 j i).mpr ((gr0 i j).mp r).symm, fun i d => ?_⟩
  · obtain ⟨rfl, rfl⟩ := (gr0 i j).mp r
    have nil : Img (gr ts0) [] [] := ⟨fun x m => (nomatch m), fun x m => (nomatch m)⟩
    exact ⟨0, 0, _, _, rfl, rfl, F.zero, F.zero, nil, nil⟩
  · by_cases h : i = 0
    · exact ⟨0, (gr0 i 0).mpr ⟨h, rfl⟩⟩
    · exfalso
      unfold dkey ts0 at d
      rw [valV_neg (p := ((Sum.inl 0 : Key), V.int 0)) (fun e => h (Sum.inl.inj e).symm)] at d
      cases d
theorem un_all (n : Nat) (dk : Int → Bool) : Un n dk ≤ n := by
  unfold Un
  have := List.length_filter_le (fun i => !dk i) (nums n)
  rw [nums_len] at this
  exact this
theorem lok0 {G : List Pr} (F : Forms G) : LenOk G ts0 := by
  have g0 := (List.getElem?_eq_some_iff.mp F.zero).1
  have := un_lt (n := G.length) (dk := fun _ => false) (dk' := dkey ts0) (a := 0) (fun i h => by cases h) ⟨by omega, by omega⟩ rfl key0
  have := un_all G.length fun _ => false
  show 1 + _ ≤ _
  omega
theorem phi0 (G : List Pr) (ts : List (Key × V)) : Phi G ts ≤ 2 * G.length := by
  have := un_all G.length (dkey ts)
  unfold Phi
  omega
end Mine
namespace Mine
open PySem PySem.Spec PyProof.Rows L2
open Evl (Ex)
/-! boards as states that are played on -/
inductive BSt
  | heaps (ns : List Int) | hedge (es : List Edge) | floor (rs : Fl) (w : Nat) | frogs (l : List Nat) | cakes (cs : List Ck) | table (rs : List RowG) (k : Nat)
noncomputable def mvB (s : Str) : BSt → List BSt
  | .heaps ns => (mvs ns).map .heaps
  | .hedge es => (mvsE s es).map .hedge
  | .floor rs w => (mvsL s w rs).map fun r => .floor r w
  | .frogs l => (mvsF s l).map .frogs
  | .cakes cs => (mvsC s cs).map .cakes
  | .table rs k => match rs[k]? with
    | some r => (sideG s r).map fun z => .table rs z.toNat
    | none => []
def vlB : BSt → PyData
  | .heaps ns => heapsQ ns
  | .hedge es => dueQ es
  | .floor rs _ => floorQ rs
  | .frogs l => frogsQ l
  | .cakes cs => cakesQ cs
  | .table rs k => tableQ rs k
inductive Bs (K : PySem.W.Frag) (H : Hp) (b : Addr) : BSt → Prop
  | heaps {ns : List Int} (h : HpAt K H b ns) (ok : OkS ns) : Bs K H b (.heaps ns)
  | hedge {es : List Edge} (h : HgAt K H b es) (ok : ∀ e ∈ es, OkE e) (l : es.length ≤ 16) : Bs K H b (.hedge es)
  | floor {rs : Fl} {w : Nat} (h : FlAt K H b rs) (ok : OkF rs w) : Bs K H b (.floor rs w)
  | frogs {l : List Nat} (h : FgAt K H b l) (ok : OkL l) : Bs K H b (.frogs l)
  | cakes {cs : List Ck} (h : CbAt K H b cs) (ok : OkC cs) : Bs K H b (.cakes cs)
  | table {xs : List V} {rs : List RowG} {k : Nat} (h : TbAt K H b xs (.int (k : Int))) (hr : RsAt H xs rs) (ok : OkRT rs) (hk : k < rs.length) : Bs K H b (.table rs k)
theorem Bs.bv {K : PySem.W.Frag} {H : Hp} {b : Addr} {g : BSt} (h : Bs K H b g) : Bv K H b (vlB g) := by
  cases h with
  | heaps h _ => exact .heaps h
  | hedge h ok _ => exact .hedge h ok
  | floor h ok => exact .floor h ok
  | frogs h ok => exact .frogs h ok
  | cakes h _ => exact .cakes h
  | table h hr _ _ => exact .table h hr
theorem Bs.kl {K : PySem.W.Frag} {H H' : Hp} {b : Addr} {g : BSt} (h : Bs K H b g) (k : Kl H H') : Bs K H' b g := by
  cases h with
  | heaps h ok => exact .heaps (h.kl k) ok
  | hedge h ok l => exact .hedge (h.kl k) ok l
  | floor h ok => exact .floor (h.keep k) ok
  | frogs h ok => exact .frogs (h.keep k) ok
  | cakes h ok => exact .cakes (h.keep k) ok
  | table h hr ok hk => exact .table (h.keep k) (hr.keep k) ok hk
theorem Bd.bs {K : PySem.W.Frag} {H : Hp} {b : Addr} {f : Str → List PyData} {d : PyData} (h : Bd K H b f d) : ∃ g, Bs K H b g := by
  cases h with
  | heaps h ok => exact ⟨_, .heaps h ok⟩
  | hedge h ok l => exact ⟨_, .hedge h ok l⟩
  | floor h ok => exact ⟨_, .floor h ok⟩
  | frogs h ok => exact ⟨_, .frogs h ok⟩
  | cakes h ok => exact ⟨_, .cakes h ok⟩
  | table h hr ok hk => exact ⟨_, .table h hr ok (List.getElem?_eq_some_iff.mp hk).1⟩
def BsV (K : PySem.W.Frag) (H : Hp) (y : V) (g : BSt) : Prop := ∃ b, y = .ref b ∧ Bs K H b g
theorem BsV.kl {K : PySem.W.Frag} {H H' : Hp} {y : V} {g : BSt} (h : BsV K H y g) (k : Kl H H') : BsV K H' y g := let ⟨b, r, z⟩ := h; ⟨b, r, z.kl k⟩
theorem BsV.bv {K : PySem.W.Frag} {H : Hp} {y : V} {g : BSt} (h : BsV K H y g) : BvV K H y (vlB g) := let ⟨b, r, z⟩ := h; ⟨b, r, z.bv⟩
theorem BdV.bs {K : PySem.W.Frag} {H : Hp} {y : V} {g : BG} (h : BdV K H y g) : ∃ st, BsV K H y st := let ⟨b, r, z⟩ := h; let ⟨st, w⟩ := z.bs; ⟨st, b, r, w⟩
abbrev BsS (K : PySem.W.Frag) (H : Hp) (ys : List V) (gs : List BSt) : Prop := AllAt (BsV K) H ys gs
theorem BsS.kl {K : PySem.W.Frag} {H H' : Hp} {ys : List V} {gs : List BSt} (h : BsS K H ys gs) (k : Kl H H') : BsS K H' ys gs := h.imp fun y c q => q.kl k
theorem BsS.bv {K : PySem.W.Frag} {H : Hp} {ys : List V} {gs : List BSt} (h : BsS K H ys gs) : BvS K H ys (gs.map vlB) := ⟨by rw [List.length_map]; exact h.1, fun i d hd => by
  rw [List.getElem?_map, Option.map_eq_some_iff] at hd
  obtain ⟨g, hg, rfl⟩ := hd
  obtain ⟨y, h1, h2⟩ := h.2 i g hg
  exact ⟨y, h1, h2.bv⟩⟩
theorem BsS.set {K : PySem.W.Frag} {H : Hp} {ys : List V} {gs : List BSt} {k : Nat} {y : V} {g : BSt} (R : BsS K H ys gs) (h : BsV K H y g) : BsS K H (ys.set k y) (gs.set k g) := by
  refine ⟨by rw [List.length_set, List.length_set]; exact R.1, fun i c hc => ?_⟩
  rw [List.getElem?_set] at hc ⊢
  by_cases e : k = i
  · rw [if_pos e] at hc ⊢
    by_cases l : i < gs.length
    · rw [if_pos (by rw [e]; exact l)] at hc
      rw [if_pos (by rw [e, R.1]; exact l)]
      cases hc
      exact ⟨y, rfl, h⟩
    · rw [if_neg (by rw [e]; exact l)] at hc; cases hc
  · rw [if_neg e] at hc ⊢
    exact R.2 i c hc
theorem okS_mvs {ns m : List Int} (ok : OkS ns) (h : m ∈ mvs ns) : OkS m := by
  unfold mvs at h
  obtain ⟨i, mi, h⟩ := List.mem_flatMap.mp h
  unfold mvAt at h
  obtain ⟨j, mj, rfl⟩ := List.mem_map.mp h
  exact okS_mv ok (List.mem_range.mp mi) (List.mem_range.mp mj)
theorem okC_mvs {s : Str} {cs m : List Ck} (ok : OkC cs) (h : m ∈ mvsC s cs) : OkC m := by
  unfold mvsC at h
  obtain ⟨i, mi, h⟩ := List.mem_flatMap.mp h
  unfold mvAtC at h
  obtain ⟨two, mj, rfl⟩ := List.mem_map.mp h
  exact ok_mv ok (List.mem_range.mp mi) mj
/-- the moves of a meeting: places and boards -/
noncomputable def mvA (s : Str) (gs : List BSt) (i : Nat) : List (Nat × BSt) := match gs[i]? with
  | some g => (mvB s g).map fun d => (i, d)
  | none => []
noncomputable def mvQ (s : Str) (gs : List BSt) : List (Nat × BSt) := (List.range gs.length).flatMap (mvA s gs)
theorem mvQ_lt {s : Str} {gs : List BSt} {m : Nat × BSt} (h : m ∈ mvQ s gs) : m.1 < gs.length := by
  unfold mvQ at h
  obtain ⟨i, mi, h⟩ := List.mem_flatMap.mp h
  have := List.mem_range.mp mi
  unfold mvA at h
  split at h
  · obtain ⟨d, _, rfl⟩ := List.mem_map.mp h; exact this
  · cases h
/-- a move: a place and the board behind it -/
def PsAt (K : PySem.W.Frag) (H : Hp) (y : V) (m : Nat × BSt) : Prop := ∃ u o, y = .ref u ∧ H u = some (.tup [.int (m.1 : Int), o]) ∧ BsV K H o m.2
theorem PsAt.kl {K : PySem.W.Frag} {H H' : Hp} {y : V} {m : Nat × BSt} (h : PsAt K H y m) (k : Kl H H') : PsAt K H' y m := let ⟨u, o, r, z, b⟩ := h; ⟨u, o, r, k _ _ z (fun ys z => by cases z), b.kl k⟩
/-! a comprehension over pairs whose parts change the heap -/
theorem lcR_st2 {te : TE} {σ : L2.St} {Q : VK} {H1 : Hp} {K : PySem.W.Frag} {a : Addr} {xs : List V} {i j : Nat} (St : Nat → List V → Hp → Prop) (hS : ∀ n acc H, St n acc H → SqL K H a xs) (len : xs.length < sizeLine)
    (mu : ∀ D n acc ys H H', H1 D = none → H D = some (.lst ys) → (∀ c o, H c = some o → c ≠ D → H' c = some o) → St n acc H → St n acc H') (h0 : ∀ D, H1 D = none → St 0 [] (upd H1 D (.lst [])))
    (hs : ∀ n x acc H D ys, H1 D = none → H D = some (.lst ys) → xs[n]? = some x → acc.length = n → St n acc H → ∀ R : VK, (∀ y H', H' D = some (.lst ys) → St (n + 1) (acc ++ [y]) H' → R y H') → ∃ u y1 y2, x = .ref u ∧ SqT K H u [y1, y2] ∧ te (((wipe σ [i, j]).set i (some y1)).set j (some y2)) H R)
    (q : ∀ D acc H', H1 D = none → acc.length = xs.length → H' D = some (.lst acc) → St xs.length acc H' → Q (.ref D) H') (w : ∀ x y, wipe (((wipe σ [i, j]).set i (some x)).set j (some y)) [i, j] = wipe σ [i, j] := by intro x y; rfl) : lcR (gTup K 2 (gCons (gName i) (gCons (gName j) gNil))) tYes te [i, j] σ Q (Itl K a) H1 := by
  intro D hD
  refine lc_list (K := K) (a := a) (xs := xs) (fun n H => ∃ acc : List V, acc.length = n ∧ H D = some (.lst acc) ∧ St n acc H) ⟨[], rfl, upd_same, h0 D hD⟩ (fun n H _ ⟨acc, _, _, s⟩ => hS n acc H s) (fun n x H hx ⟨acc, la, hd, s⟩ => ?_) (fun H ⟨acc, la, hd, s⟩ => q D acc H hD la hd s)
  obtain ⟨u, y1, y2, rfl, hu, ht⟩ := hs n x acc H D acc hD hd hx la s (fun y H4 => ∃ acc', H4 D = some (.lst acc') ∧ acc'.length < sizeLine ∧ ∃ acc2 : List V, acc2.length = n + 1 ∧ upd H4 D (.lst (acc' ++ [y])) D = some (.lst acc2) ∧ St (n + 1) acc2 (upd H4 D (.lst (acc' ++ [y])))) fun y H4 h4 s4 =>
    ⟨acc, h4, by rw [la]; exact Nat.lt_of_le_of_lt (Nat.le_of_lt (List.getElem?_eq_some_iff.mp hx).1) len, acc ++ [y], by rw [List.length_append, la]; rfl, upd_same, mu D _ _ acc H4 _ hD h4 (fun c o z n => (upd_ne n).trans z) s4⟩
  refine k_gtup hu rfl (k_gcons ?_)
  show gCons (gName j) gNil [y2] ((wipe σ [i, j]).set i (some y1)) H _
  refine k_gcons ?_
  unfold gName
  exact k_gnil ⟨w y1 y2, ht⟩
/-- the moves told by their values -/
def duQ (m : Nat × BSt) : PyData := .tuple [.int (m.1 : Int), vlB m.2]
theorem PsAt.lays {K : PySem.W.Frag} {H : Hp} {zs : List V} {ms : List (Nat × BSt)} (T : AllAt (PsAt K) H zs ms) : Lays 64 (.list (ms.map duQ)) := (lays_list (n := 5) fun d md => by
  obtain ⟨m, mm, rfl⟩ := List.mem_map.mp md
  obtain ⟨i, hi⟩ := List.mem_iff_getElem?.mp mm
  obtain ⟨y, _, u, o, _, _, b⟩ := T.2 i m hi
  obtain ⟨b', _, hb⟩ := b.bv
  refine lays_tup fun d md => ?_
  simp only [List.mem_cons, List.not_mem_nil, or_false] at md
  rcases md with rfl | rfl
  · exact lays_int _ _
  · exact hb.lays).up (by decide)
theorem lc_due {K : PySem.W.Frag} {σ : L2.St} {Q : VK} {H1 : Hp} {te : TE} {i j : Nat} {a : Addr} {zs : List V} {ms : List (Nat × BSt)} (ha : H1 a = some (.lst zs)) (T : AllAt (PsAt K) H1 zs ms) (few : zs.length ≤ 100000)
    (te_ok : ∀ (x : V) (b : Addr) (d : PyData) (H : Hp) (Q' : VK), Bv K H b d → (∀ u v H', Ex H H' → H' u = some (.tup [x, v]) → Dt H' v d → Q' (.ref u) H') → te (((wipe σ [i, j]).set i (some x)).set j (some (.ref b))) H Q')
    (q : ∀ D acc H', H1 D = none → Ex H1 H' → H' D = some (.lst acc) → DtS H' acc (ms.map duQ) → Q (.ref D) H') (w : ∀ x y, wipe (((wipe σ [i, j]).set i (some x)).set j (some y)) [i, j] = wipe σ [i, j] := by intro x y; rfl) : lcR (gTup K 2 (gCons (gName i) (gCons (gName j) gNil))) tYes te [i, j] σ Q (Itl K a) H1 := by
  refine lcR_st2 (fun n acc H => Ex H1 H ∧ DtS H acc ((ms.map duQ).take n)) (fun n acc H s => k_sq (s.1 _ _ ha)) (Nat.lt_of_le_of_lt few (by decide)) ?_ (fun D hD => ⟨Evl.Ex.new hD, AllAt.nil⟩) ?_ ?_ w
  · rintro D n acc zs H H' hD hd k ⟨e, r⟩
    exact ⟨fun c o z => k _ _ (e _ _ z) (ne_of_none z hD), r.kl (Kl.set hd k)⟩
  · rintro n x acc H D zs' hD hd hx la ⟨e, r⟩ R' r'
    have nl := (List.getElem?_eq_some_iff.mp hx).1
    have ml : n < ms.length := by rw [← T.1]; exact nl
    obtain ⟨y, hy, u, o, rfl, hu, bo⟩ := T.2 n _ (List.getElem?_eq_getElem ml)
    rw [hx] at hy; cases hy
    obtain ⟨b, rfl, hb⟩ := bo.bv.kl (Kl.of e)
    refine ⟨u, _, _, rfl, k_st (e _ _ hu), te_ok _ b _ H _ hb fun u2 v H' e' h2 hv => r' _ H' (e' _ _ hd) ⟨e.trans e', ?_⟩⟩
    rw [List.take_add_one, List.getElem?_map, List.getElem?_eq_getElem ml]
    exact AllAt.app (r.kl (Kl.of e')) (AllAt.one (.tup h2 (.cons (.int _) (.cons hv .nil))))
  · rintro D acc H' hD la hd ⟨e, r⟩
    rw [List.take_of_length_le (by rw [List.length_map, T.1]; exact Nat.le_refl _)] at r
    exact q D acc H' hD e hd r
theorem k_neL {K : PySem.W.Frag} {H : Hp} {Q : VK} {a b : Addr} {xs ys : List V} {ds : List PyData} (h1 : H a = some (.lst xs)) (r1 : DtS H xs ds) (h2 : H b = some (.lst ys)) (r2 : DtS H ys ds) (l : Lays 64 (.list ds)) (q : Q (.bl false) H) : rNeD K (.ref a) (.ref b) H Q :=
  ⟨.list ds, .list ds, .lst (k_sq h1) r1.all.dp, .lst (k_sq h2) r2.all.dp, l.shaped, l.shaped, by rw [l.refl]; exact q⟩
theorem DtS.ints {H : Hp} (ns : List Int) : DtS H (ns.map V.int) (ns.map .int) := ⟨by rw [List.length_map, List.length_map], fun i d hd => by
  rw [List.getElem?_map, Option.map_eq_some_iff] at hd
  obtain ⟨z, hz, rfl⟩ := hd
  exact ⟨.int z, by rw [List.getElem?_map, hz]; rfl, .int z⟩⟩
theorem k_neIL {K : PySem.W.Frag} {H : Hp} {Q : VK} {a b : Addr} {ns : List Int} (h1 : H a = some (.lst (ns.map V.int))) (h2 : H b = some (.lst (ns.map V.int))) (q : Q (.bl false) H) : rNeD K (.ref a) (.ref b) H Q :=
  k_neL h1 (DtS.ints ns) h2 (DtS.ints ns) ((lays_list (n := 1) fun d md => by obtain ⟨i, _, rfl⟩ := List.mem_map.mp md; exact lays_int _ _).up (by decide)) q
end Mine
namespace Mine
open PySem PySem.Spec PyProof.Rows L2
/-! o.m(e, ..) in a try's body, a method that may raise: what is wished of its error hangs on the slots -/
def tMethE (C : Addr) (m : Str) (sp : Sp) (E : L2.St → XK) (ta : TE) (t : TA) : TE := fun σ H Q => ta σ H fun x H1 => ∃ a dx fs, x = .ref a ∧ H1 a = some (.ins C dx fs) ∧ fs.lookup m = none ∧ t σ H1 fun vs H2 => sp (x :: (vs ++ [])) H2 Q (E σ)
section
variable {X : Cx} {CX : CXT} {k : Nat} {f C : Addr} {fd : FuncData} {ps : List Str} {sp : Sp} {E : L2.St → XK} {m : Str} {pos apos : Pos} {e o : Expr} {es : List Expr} {ta : TE} {t : TA} {pl : Sem Bool}
theorem pe_methE (he : PE X o ta) (c : Cls X.K C) (hm : Meth X.K C m f) (F : FnOk X.prog X.w X.K X.mg X.base CX k f fd ps sp) (hr : Room k X.A) (hb : Binds X.K fd ps []) (hx : ∀ σ, PassesAt CX X σ (E σ)) (ha : PA X (e :: es) t)
    (hst : starEach (e :: es) X.env = (false, eval e X.env) :: starEach es X.env := by rfl) (hpl : (backTo pos (starEach es X.env)).any (·.1) = false := by rfl)
    (ht : eval (.Call (.Attribute o m apos) (e :: es) [] pos) X.env = (do
      let ov ← eval o X.env
      standAt apos.atName
      let (f, first) ← holding [ov] (getMethod ov m pl)
      callWith pos f first (backTo pos (starEach (e :: es) X.env)) (backToKw pos (keywordEach [] X.env))) := by rfl) :
    PE X (.Call (.Attribute o m apos) (e :: es) [] pos) (tMethE C m sp E ta t) := by
  constructor
  intro pins s σ H Q I h
  refine PySem.W.methodCall_KW (pl := pl) (thn (he.run pins s σ H _ I h) ?_) ht
  rintro u s1 ⟨x, H1, I1, rx, a, dx, fs, ex, ea, l, q⟩
  subst ex
  obtain rfl : u = Value.ref a := rx
  refine getmeth_ok I1 ea c hm l ?_
  refine PySem.W.callWith_K (first := [.ref a]) (h₀ := X.base) I.ok.mod.kin hm.kp (thn (ha.run pos pins s1 σ H1 _ I1 q) ?_) hst hpl
  rintro us s2 ⟨vs, H2, I2, r, q2⟩
  rw [List.append_nil] at q2
  exact ⟨I2.kIn, run_fnS (us := .ref a :: us) (vs := .ref a :: vs) F hr hb (hx σ) I2 (.cons rfl r) q2⟩
theorem pe_methE0 (he : PE X o ta) (c : Cls X.K C) (hm : Meth X.K C m f) (F : FnOk X.prog X.w X.K X.mg X.base CX k f fd ps sp) (hr : Room k X.A) (hb : Binds X.K fd ps []) (hx : ∀ σ, PassesAt CX X σ (E σ))
    (ht : eval (.Call (.Attribute o m apos) [] [] pos) X.env = (do
      let ov ← eval o X.env
      standAt apos.atName
      let (f, first) ← holding [ov] (getMethod ov m pl)
      callWith pos f first (backTo pos (starEach [] X.env)) (backToKw pos (keywordEach [] X.env))) := by rfl) :
    PE X (.Call (.Attribute o m apos) [] [] pos) (tMethE C m sp E ta tNil) := by
  constructor
  intro pins s σ H Q I h
  refine PySem.W.methodCall_KW (pl := pl) (thn (he.run pins s σ H _ I h) ?_) ht
  rintro u s1 ⟨x, H1, I1, rx, a, dx, fs, ex, ea, l, q⟩
  subst ex
  obtain rfl : u = Value.ref a := rx
  refine getmeth_ok I1 ea c hm l ?_
  exact PySem.W.callWith_K0 (first := [.ref a]) I1.kIn hm.kp (run_fnS (us := [.ref a]) (vs := [.ref a]) F hr hb (hx σ) I1 (.cons rfl .nil) q)
theorem k_methE {σ : L2.St} {H : Hp} {Q : VK} (q : ta σ H fun x H1 => ∃ a dx fs, x = .ref a ∧ H1 a = some (.ins C dx fs) ∧ fs.lookup m = none ∧ t σ H1 fun vs H2 => sp (x :: (vs ++ [])) H2 Q (E σ)) : tMethE C m sp E ta t σ H Q := q
end
end Mine
namespace Mine
open PySem PySem.Spec PyProof.Rows L2
open Evl (Ex)
/-! a list against an empty one -/
def rEqN (K : PySem.W.Frag) : R2 := fun x y H Q => ∃ a b xs, x = V.ref a ∧ y = V.ref b ∧ H a = some (.lst xs) ∧ H b = some (.lst []) ∧ Q (.bl (decide (xs.length = 0))) H
theorem op_eqN {X : Cx} (hu : X.A.units + 64 < cLine) : OpR X (compareOp .Eq) (rEqN X.K) := by
  rintro pins s σ H x y v u Q I r1 r2 ⟨a, b, xs, rfl, rfl, ha, hb, q⟩
  cases xs with
  | nil => exact op_eqD hu pins s σ H _ _ v u Q I r1 r2 ⟨.list [], .list [], .lst (k_sq ha) .nil, .lst (k_sq hb) .nil, by decide +kernel, by decide +kernel, by simpa [PyData.eqv, PyData.eqvAll] using q⟩
  | cons x xs =>
    obtain rfl : v = Value.ref a := r1
    obtain rfl : u = Value.ref b := r2
    obtain ⟨its, n, rv, h1, l1⟩ := I.lst ha
    obtain ⟨its2, n2, rv2, h2, l2⟩ := I.lst hb
    cases rv2
    cases rv with
    | @cons _ w _ ws hw rw =>
    show wpAny _ _ (richCompare .Eq (.ref a) (.ref b)) _ _ _
    refine richCompare_meets_room ⟨_, h1, rfl⟩ ⟨_, h2, rfl⟩ PySem.F.slot_list_eq PySem.F.entry_list_eq (PySem.F.args_list_eq_2 _ _) (PySem.AutoSeq1.list___eq___list_list_0 a _ n b _ n2 (by simp)) ⟨h1, h2, ?_⟩ (by omega)
    exact ⟨by simp, .bl false, H, I, rfl, by simpa using q⟩
/-! {k: v}, k a tuple -/
def tDispT (tk tv : TE) : TE := fun σ H Q => ∀ d, H d = none → tk σ (upd H d (.dT [])) fun y H1 => tv σ H1 fun z H2 => ∃ (b : Addr) (k : List Key), y = V.ref b ∧ H2 d = some (.dT []) ∧ H2 b = some (.tup (k.map kV)) ∧ Q (.ref d) (upd H2 d (.dT [(k, z)]))
theorem pe_dispT {X : Cx} {pos : Pos} {tk tv : TE} {k v : Expr} (hu : X.A.units + 9 < cLine) (hk : PE X k tk) (hv : PE X v tv) : PE X (.Dict [some k] [v] pos) (tDispT tk tv) := by
  refine ⟨fun pins s σ H Q I h => ?_⟩
  have hn := I.hok.fresh (Nat.le_refl s.heap.objs.size)
  have hb := I.big
  have hm : (s.heap.objs.size == sysModules) = false := beq_eq_false_iff_ne.mpr (Ne.symm (Nat.ne_of_lt hb))
  have I1 := I.laid (a := s.heap.objs.size) (o := .dT []) (h' := s.heap.push { cls := .type "dict", data := .dict #[] }) (t' := s.toks) (fun _ _ q => Heap.get?_push_of_some _ q) (Nat.le_refl _)
    ⟨Nat.zero_le _, hm, [], .nil, _, #[], 0, Heap.get?_push_size _ rfl, ⟨rfl, rfl, rfl⟩, rfl, rfl, List.nodup_nil⟩
  refine wpAny_Dict_any rfl rfl (by simp) (show 1 ≤ 15 by decide) ?_
  refine pairTrees_cons_walk (thn (hk.run pins _ σ _ _ I1 (h _ hn)) fun u s1 z1 => ?_)
  obtain ⟨y, H1, I2, ry, q1⟩ := z1
  refine thn (hv.run pins s1 σ H1 _ I2 q1) fun u2 s2 z2 => ?_
  obtain ⟨z, H2, I3, rz, b, kk, ey, g, kb, q2⟩ := z2
  subst ey
  obtain rfl : u = Value.ref b := ry
  refine pairTrees_nil_walk ?_
  unfold storeAll
  rw [List.forIn_cons]
  obtain ⟨zz, hd, xs, r, dd⟩ := dt_of I3.hok g
  have xn : xs = [] := by cases r; rfl
  subst xn
  refine wpAny_bind (wpAny_bind (wpAny_dictSet_heap (hsz := Nat.zero_le _) (knd := tupleKind (mixKind X.prog X.w)) (show X.A.units < cLine by omega) (key_of I3.hok kb) dd fun h' dd' hs => ?_))
  refine wpAny_pure ?_
  dsimp only
  rw [List.forIn_nil]
  refine wpAny_pure ⟨.ref s.heap.objs.size, _, ?_, rfl, q2⟩
  rw [storedH_new rfl] at dd'
  obtain ⟨q, es, ep, hq, h2, h3, h4, _, h5⟩ := dd'
  have nb : b ≠ s.heap.objs.size := fun e => by rw [e, g] at kb; cases kb
  refine I3.write (x := s.heap.objs.size) (e := s.heap.objs.size) (by rw [g]; exact True.intro) (.inl rfl) (fun c u hc y => (hs.2 c hc).trans y) ⟨q, hq⟩ ?_
  exact ⟨(show 1 ≤ sizeLine by decide), hd, _, .cons ⟨rfl, (upd_ne nb).trans kb, rz⟩ .nil, q, es, ep, hq, h2, h3, h4, h5⟩
/-! the keys of a locked dict -/
theorem for_keysT {g : TG} {tb : TS} {D : Ends} {σ : L2.St} {H : Hp} {d : Addr} {o : Obj} {kvs : List (List Key × V)} (Pv : Nat → L2.St → Hp → Prop) (h0 : Pv 0 σ H) (hl : ∀ i σ' H', i ≤ kvs.length → Pv i σ' H' → H' d = some (.frz o (.dT kvs)))
    (hs : ∀ i k v q σ' H', kvs[i]? = some (k, v) → Pv i σ' H' → H' q = some (.tup (k.map kV)) → g (.ref q) σ' H' fun σ2 H2 => tb { D with nx := Pv (i + 1), ct := Pv (i + 1), bk := D.nx } σ2 H2) (hd : ∀ σ' H', Pv kvs.length σ' H' → D.nx σ' H') : forK g tb D σ (Itkt d o kvs) H := by
  refine ⟨fun i m σ H => i ≤ kvs.length ∧ m = kvs.length - i ∧ Pv i σ H, ⟨kvs.length, Nat.zero_le _, by omega, h0⟩, ?_⟩
  rintro i m σ H ⟨hi, rfl, p⟩
  have hq := hl i σ H hi p
  rcases Nat.lt_or_ge i kvs.length with h | h
  · refine Or.inr ⟨⟨hq, h⟩, Pv (i + 1), fun σ' H' p' => ⟨kvs.length - (i + 1), by omega, by omega, rfl, p'⟩, ?_⟩
    rintro v H' ⟨rfl, k, v', q, hk, rfl, hq⟩
    exact hs i k v' q σ _ hk p hq
  · have e : i = kvs.length := by omega
    subst e
    exact Or.inl ⟨⟨hq, Nat.le_refl _⟩, hd σ H p⟩
section
variable {g : TG} {tt : TT} {te : TE} {vs : List Nat} {σ : L2.St} {Q : VK} {H1 : Hp}
theorem lcR_keysT {d : Addr} {o : Obj} {kvs : List (List Key × V)} (f : List Key → Option V) (hS : H1 d = some (.frz o (.dT kvs))) (len : kvs.length < sizeLine) (t : ∀ (i : Nat) (k : List Key) (v : V) (q : Addr) (H' : Hp), kvs[i]? = some (k, v) → Ex H1 H' → H' q = some (.tup (k.map kV)) → turnR g tt te vs σ (.ref q) (f k) H')
    (q : ∀ D H', H1 D = none → Ex H1 H' → H' D = some (.lst (kvs.filterMap fun e => f e.1)) → Q (.ref D) H') : lcR g tt te vs σ Q (Itkt d o kvs) H1 := by
  intro D hD
  refine ⟨fun i m H => i ≤ kvs.length ∧ m = kvs.length - i ∧ Ex H1 H ∧ H D = some (.lst ((kvs.take i).filterMap fun e => f e.1)), ⟨kvs.length, Nat.zero_le _, rfl, Evl.Ex.new hD, upd_same⟩, ?_⟩
  rintro i m H ⟨hi, rfl, e, hd⟩
  have hq := e _ _ hS
  rcases Nat.lt_or_ge i kvs.length with h | h
  · refine Or.inr ⟨⟨hq, h⟩, fun H' => Ex H1 H' ∧ H' D = some (.lst ((kvs.take (i + 1)).filterMap fun e => f e.1)), fun H' p => ⟨kvs.length - (i + 1), by omega, by omega, rfl, p⟩, ?_⟩
    rintro v H' ⟨rfl, k, v', q, hk, rfl, hq⟩
    have rs : (kvs.take (i + 1)).filterMap (fun e => f e.1) = (kvs.take i).filterMap (fun e => f e.1) ++ (f k).toList := by
      rw [List.take_add_one, hk, List.filterMap_append]
      cases h : f k <;> simp [h]
    refine t i k v' q _ hk e hq _ (Evl.Ex.refl _) (fun o' H4 => match o' with | some y => ∃ acc, H4 D = some (.lst acc) ∧ acc.length < sizeLine ∧ (Ex H1 (upd H4 D (.lst (acc ++ [y]))) ∧ upd H4 D (.lst (acc ++ [y])) D = some (.lst ((kvs.take (i + 1)).filterMap fun e => f e.1))) | none => Ex H1 H4 ∧ H4 D = some (.lst ((kvs.take (i + 1)).filterMap fun e => f e.1))) fun H'' e2 => ?_
    rw [rs]
    have e3 := e.trans e2
    cases hf : f k with
    | none => exact ⟨e3, by rw [e2 _ _ hd]; simp⟩
    | some y =>
      refine ⟨_, e2 _ _ hd, Nat.lt_of_le_of_lt (Nat.le_trans (List.length_filterMap_le _ _) (by rw [List.length_take]; omega)) len, Evl.Ex.mut e3 hD, upd_same⟩
  · have ei : i = kvs.length := by omega
    subst ei
    rw [List.take_length] at hd
    exact Or.inl ⟨⟨hq, Nat.le_refl _⟩, q D H hD e hd⟩
end
/-! a tuple of tuples of the head -/
def itA (K : PySem.W.Frag) (a : Addr) (i : Nat) : Addr := match K.lookup a with
  | some ⟨_, _, .seq its _, _⟩ => match its[i]? with
    | some (.ref b) => b
    | _ => 0
  | _ => 0
def tup2B (K : PySem.W.Frag) (a : Addr) (ls : List (List V)) : Bool := tupB K a ((List.range ls.length).map fun i => V.ref (itA K a i)) && (List.range ls.length).all fun i => tupB K (itA K a i) (ls.getD i [])
def Tup2 (K : PySem.W.Frag) (a : Addr) (ls : List (List V)) : Prop := (∀ H, SqT K H a ((List.range ls.length).map fun i => V.ref (itA K a i))) ∧ ∀ i, i < ls.length → ∀ H, SqT K H (itA K a i) (ls.getD i [])
theorem tup2B_ok {K : PySem.W.Frag} {a : Addr} {ls : List (List V)} (h : tup2B K a ls = true) : Tup2 K a ls := by
  unfold tup2B at h
  rw [Bool.and_eq_true, List.all_eq_true] at h
  exact ⟨tupB_ok h.1, fun i hi => tupB_ok (h.2 i (List.mem_range.mpr hi))⟩
structure FNEXT (K : PySem.W.Frag) : Prop where
  tu : Tup2 K (He.ga K "NEXT_CELLS") [[.int (-1), .int 0], [.int 0, .int (-1)], [.int 0, .int 1], [.int 1, .int 0]]
end Mine
namespace Mine
open PySem PySem.Spec PyProof.Rows L2
/-! a list that is only read + a list -/
def rCatL (K : PySem.W.Frag) : R2 := fun x y H Q => ∃ l b xs zs, x = V.ref l ∧ y = V.ref b ∧ SqL K H l xs ∧ H b = some (.lst zs) ∧ xs.length + zs.length ≤ sizeLine ∧ ∀ p, H p = none → Q (.ref p) (upd H p (.lst (xs ++ zs)))
theorem op_catL {X : Cx} : OpR X (binaryOp .Add) (rCatL X.K) := by
  intro pins s σ H x y v u Q I rx ry h
  obtain ⟨l, b, xs, zs, rfl, rfl, hH, hB, hz, q⟩ := h
  cases rx
  cases ry
  obtain ⟨its, r, pl, hl0⟩ := I.list hH
  obtain ⟨z2, its2, n2, r2, hl2, e2⟩ := I.lstM hB
  have hl := r.length
  obtain ⟨⟨cls, dd, data, sl⟩, ho, hc, n, hd⟩ := id pl.isList
  simp only at hc hd
  subst hc hd
  have e : its.toArray ++ its2.toArray = (its ++ its2).toArray := by simp
  have hq : EP X pins σ Q (.ref s.heap.objs.size) { s with heap := s.heap.push { cls := .type "list", data := .seq (its ++ its2).toArray } } :=
    ⟨.ref _, _, I.lnew (t' := s.toks) (r.append r2) (by rw [List.length_append]; omega), rfl, q _ I.fresh⟩
  refine concat_meets ⟨_, ho, rfl⟩ ⟨_, e2, rfl⟩ noFill_list_add seq_list_add PySem.F.slot_list_add PySem.F.entry_list_add (PySem.F.args_list_add_2 _ _) (list_addW l b its.toArray its2.toArray n n2 dd none sl _ (by rw [List.size_toArray, List.size_toArray]; omega)) ⟨ho, e2, ?_⟩
  rw [e]
  exact hq
theorem k_rCatL {K : PySem.W.Frag} {H : Hp} {Q : VK} {a b : Addr} {xs ys : List V} (h1 : SqL K H a xs) (h2 : H b = some (.lst ys)) (l : xs.length + ys.length ≤ sizeLine) (q : ∀ p, H p = none → Q (.ref p) (upd H p (.lst (xs ++ ys)))) : rCatL K (.ref a) (.ref b) H Q := ⟨a, b, xs, ys, rfl, rfl, h1, h2, l, q⟩
end Mine
namespace Mine
open PySem PySem.Spec PyProof.Rows L2
open Evl (Ex)

local macro_rules | `(tactic| walk_at "mcond") => `(tactic| first
  | (show (0 : Int) < _; omega)
  | (show (0 : Int) ≤ _; omega)
  | (show CDiv _ _; exact ⟨by omega, by omega⟩)
  | (show CPow _ _; exact ⟨by omega, by omega, by omega⟩)
  | (show CMul _ _; exact Or.inl ⟨by omega, by omega⟩)
  | (show CMul _ _; exact Or.inr ⟨by omega, by omega⟩)
  | assumption)
local macro_rules | `(tactic| walk_at "mtr") => `(tactic| first
  | assumption
  | (refine tr_step (H := ?_) ?_ ?_; rotate_left; (focus assumption); walk_at "mtr"))
local macro_rules | `(tactic| walk_at "msq") => `(tactic| first
  | assumption
  | (refine k_sq ?_; walk_at "mtr")
  | (refine k_st ?_; walk_at "mtr")
  | exact Evl.ex_l (by first | assumption | solve_by_elim) (by assumption)
  | exact Evl.ex_t (by first | assumption | solve_by_elim) (by assumption))
local macro_rules | `(tactic| walk_at "mins") => `(tactic| walk_at "mtr")
local macro_rules | `(tactic| walk_at "mcls") => `(tactic| first | assumption | (apply FDyadic.cl; assumption))
local macro_rules | `(tactic| walk_at "mna") => `(tactic| first | assumption | (apply FDyadic.nt; assumption) | (apply FDyadic.np; assumption))
local macro_rules | `(tactic| walk_at "mlk") => `(tactic| first | assumption | exact dfs_top _ _ | exact dfs_power _ _)
local macro_rules | `(tactic| walk_at "mdy") => `(tactic| first
  | assumption
  | (refine dy_tr (H := ?_) ?_ ?_; rotate_left; (focus assumption); walk_at "mdy"))
local macro_rules | `(tactic| walk_at "mst") => `(tactic| first
  | with_reducible refine k_seq ?_
  | with_reducible refine k_asg ?_
  | ((with_reducible refine k_fldv (v := ?_) (fs := ?_) (C := ?_) (dx := ?_) (a := ?_) ?_ ?_ ?_ ?_ ?_ ?_); rotate_left 5; (focus exact rfl); (focus walk_at "mins"); (focus walk_at "mcls"); (focus walk_at "mna"); (focus walk_at "mlk"))
  | with_reducible refine k_name ?_
  | ((with_reducible refine k_var (v := ?_) ?_ ?_); rotate_left; (focus exact rfl))
  | with_reducible refine k_c ?_
  | with_reducible refine k_op ?_
  | with_reducible refine k_un ?_
  | with_reducible refine k_I0 ?_
  | with_reducible refine k_pow12 ?_
  | with_reducible refine k_pow18 ?_
  | with_reducible refine k_pow11 ?_
  | with_reducible refine k_pow9 ?_
  | with_reducible refine k_pow30 ?_
  | ((with_reducible refine k_shl1 ?_ ?_); (focus (constructor <;> omega)); intro _ _ _)
  | ((with_reducible refine k_minL ?_); intro _ _ _ _)
  | ((with_reducible refine k_maxL ?_); intro _ _ _ _)
  | ((with_reducible refine k_I ?_ ?_); (focus walk_at "mcond"))
  | with_reducible refine k_U ?_
  | with_reducible refine k_eqI ?_
  | with_reducible refine k_eqB ?_
  | with_reducible refine k_neI ?_
  | with_reducible refine k_isTy ?_
  | with_reducible refine k_isiII ?_
  | with_reducible refine k_isiIB ?_
  | with_reducible refine k_isiBB ?_
  | with_reducible refine k_isN ?_
  | with_reducible refine k_notN ?_
  | with_reducible refine k_chain ?_
  | with_reducible refine k_bl ?_
  | with_reducible refine k_test ?_
  | with_reducible refine k_B ?_
  | with_reducible refine k_and ?_
  | with_reducible refine k_or ?_
  | with_reducible refine k_not ?_
  | with_reducible refine k_if ?_
  | with_reducible refine k_ifS ?_
  | with_reducible refine k_andV ?_
  | with_reducible refine k_orV ?_
  | with_reducible refine k_notV ?_
  | with_reducible refine k_tup ?_
  | with_reducible refine k_lst ?_
  | with_reducible refine k_cb ?_
  | with_reducible refine k_nil ?_
  | with_reducible refine k_cons ?_
  | with_reducible refine k_rInt ?_
  | with_reducible refine k_rAbs ?_
  | with_reducible refine k_rMax ?_
  | with_reducible refine k_rMin ?_
  | ((with_reducible refine k_rLenL (ys := ?_) ?_ ?_); rotate_left; (focus walk_at "msq"))
  | ((with_reducible refine k_rLenT (ys := ?_) ?_ ?_); rotate_left; (focus walk_at "msq"))
  | with_reducible refine k_bm ?_
  | with_reducible refine k_bm0 ?_
  | ((with_reducible refine k_tyl (xs := ?_) ?_ ?_); rotate_left; (focus walk_at "msq"))
  | ((with_reducible refine k_rApp (xs := ?_) ?_ ?_ ?_); rotate_left; (focus walk_at "mtr"))
  | ((with_reducible refine dy_meth (t := ?_) (p := ?_) ?_ ?_ ?_ ?_); rotate_left 2; (focus walk_at "mdy"); (focus decide +kernel); (focus decide +kernel))
  | ((with_reducible refine dy_prop (t := ?_) (p := ?_) ?_ ?_); rotate_left 2; (focus walk_at "mdy"))
  | ((with_reducible refine dy_isC (t := ?_) (p := ?_) ?_ ?_); rotate_left 2; (focus walk_at "mdy"))
  | with_reducible refine k_call ?_
  | with_reducible refine k_meth ?_
  | with_reducible refine k_make ?_
  | with_reducible refine k_prop ?_
  | with_reducible refine k_ret ?_
  | with_reducible refine k_drop ?_
  | with_reducible refine k_next ?_
  | with_reducible refine k_for ?_
  | with_reducible refine k_rng1 ?_
  | with_reducible refine k_rng2 ?_
  | with_reducible refine k_ilist ?_
  | with_reducible refine k_itup ?_
  | with_reducible refine k_iteT ?_
  | with_reducible refine k_iteNT ?_
  | with_reducible refine k_iteNF ?_
  | with_reducible refine k_raise ?_
  | with_reducible refine k_iteF ?_
  | ((with_reducible refine k_ixT (xs := ?_) (v := ?_) ?_ ?_ ?_); rotate_left 2; (focus walk_at "msq"); (focus exact rfl))
  | with_reducible refine k_gnil ?_
  | with_reducible refine k_gcons ?_)
local macro_rules | `(tactic| walk_at "mcls") => `(tactic| first | assumption | (apply FYard.cl; assumption))
local macro_rules | `(tactic| walk_at "mna") => `(tactic| first | assumption | (apply FYard.nl; assumption) | (apply FYard.nr; assumption) | (apply FYard.nh; assumption) | (apply FYard.nn; assumption) | (apply FYard.nt; assumption))
local macro_rules | `(tactic| walk_at "mlk") => `(tactic| first | exact yfs_l _ | exact yfs_r _ | exact yfs_h _ | exact yfs_n _ | exact yfs_t _)
local macro_rules | `(tactic| walk_at "myd") => `(tactic| first
  | assumption
  | (refine YardAt.ex (H := ?_) ?_ ?_; rotate_right; (focus assumption); walk_at "myd"))
local macro_rules | `(tactic| walk_at "mst") => `(tactic| first
  | with_reducible refine k_sfl ?_
  | with_reducible refine k_lc ?_
  | with_reducible refine k_dnew ?_
  | with_reducible refine k_tru ?_
  | with_reducible refine k_rng3 ?_
  | with_reducible refine k_gsub ?_
  | with_reducible refine k_set1 ?_
  | with_reducible refine k_sadd ?_
  | with_reducible refine k_revL ?_
  | with_reducible refine k_nnot ?_
  | with_reducible refine k_nget ?_
  | with_reducible refine k_nput ?_
  | with_reducible refine k_dget ?_
  | with_reducible refine k_din ?_
  | with_reducible refine k_dnotin ?_
  | with_reducible refine k_dput ?_
  | with_reducible refine k_tsl ?_
  | with_reducible refine k_part ?_
  | with_reducible refine k_nopart ?_
  | with_reducible refine k_exi ?_
  | ((with_reducible refine k_rTupL (ys := ?_) ?_ ?_); rotate_left; (focus walk_at "msq"))
  | ((with_reducible refine k_rListL (ys := ?_) ?_ ?_); rotate_left; (focus walk_at "msq"))
  | ((with_reducible refine k_rListT (ys := ?_) ?_ ?_); rotate_left; (focus walk_at "msq"))
  | ((with_reducible refine k_in (ns := ?_) ?_ ?_); rotate_left; (focus walk_at "msq")))
/-- a tape: three ints in a list -/
def TapeAt (H : Hp) (t : Addr) : Prop := ∃ a b c : Int, H t = some (.lst [.int a, .int b, .int c])
theorem TapeAt.ex {H H' : Hp} {t : Addr} (h : TapeAt H t) (e : Ex H H') : TapeAt H' t := let ⟨a, b, c, z⟩ := h; ⟨a, b, c, e _ _ z⟩
theorem TapeAt.kp {H H' : Hp} {t d : Addr} (h : TapeAt H t) (n : t ≠ d) (k : ∀ c o, H c = some o → c ≠ d → H' c = some o) : TapeAt H' t := let ⟨a, b, c, z⟩ := h; ⟨a, b, c, k _ _ z n⟩
/-- all but the tape stays -/
def Tk (t : Addr) (H H' : Hp) : Prop := ∀ c o, H c = some o → c ≠ t → H' c = some o
theorem Tk.refl {t : Addr} (H : Hp) : Tk t H H := fun _ _ z _ => z
theorem Tk.trans {t : Addr} {H H1 H2 : Hp} (a : Tk t H H1) (b : Tk t H1 H2) : Tk t H H2 := fun c o z n => b c o (a c o z n) n
theorem Tk.of {t : Addr} {H H' : Hp} (e : Ex H H') : Tk t H H' := fun c o z _ => e c o z
def sp_law_tape (K : PySem.W.Frag) : Sp := fun vs H Q _ => ∃ (c k : Int), vs = [.int c, .int k] ∧ ∀ p H', H p = none → Ex H H' → TapeAt H' p → Q (.ref p) H'
abbrev N_law_tape : List Str := ["cell", "k"]
def t_law_tape (K : PySem.W.Frag) (E : XK) : TS := (tRet (tLst (tCons (tVar 0) (tCons (tCB rIntB (tCons (tOp rGeI (tVar 0) (tOp rPowI (tC (.int 10)) (tC (.int 18)))) tNil)) (tCons (tOp rModI (tCB rIntI (tCons (tOp rAddI (tOp rAddI (tOp rMulI (tVar 0) (tC (.int 40014))) (tOp rMulI (tVar 1) (tC (.int 52774)))) (tC (.int 31))) tNil)) (tC (.int 2147483563))) tNil)))))
theorem len_law_tape {K : PySem.W.Frag} {vs : List V} {H : Hp} {Q : VK} {E : XK} (h : sp_law_tape K vs H Q E) : vs.length = 2 := by
  obtain ⟨_, _, rfl, _⟩ := h; rfl
theorem pure_law_tape {K : PySem.W.Frag} (vs : List V) (H : Hp) (Q : VK) (E : XK) (h : sp_law_tape K vs H Q E) : t_law_tape K E { nx := fun _ H' => Q .non H', rt := Q } (start N_law_tape vs) H := by
  obtain ⟨c, k, rfl, q⟩ := h
  unfold t_law_tape
  repeat walk_at "mst"
  refine k_rIntB ?_
  repeat walk_at "mst"
  refine ⟨by show 3 ≤ sizeLine; decide, fun p np => ?_⟩
  exact q p _ np (Evl.Ex.new np) ⟨_, _, _, upd_same⟩
theorem use_tape {K : PySem.W.Frag} {H : Hp} {Q : VK} {E : XK} {c k : Int} (q : ∀ p H', H p = none → Ex H H' → TapeAt H' p → Q (.ref p) H') : sp_law_tape K ([.int c, .int k] ++ []) H Q E := ⟨c, k, rfl, q⟩
structure FKinds (K : PySem.W.Frag) : Prop where
  m1 : Mk K (He.ga K "Heaps") (He.ma K (He.ga K "Heaps") "__init__")
  m2 : Mk K (He.ga K "Hedge") (He.ma K (He.ga K "Hedge") "__init__")
  m3 : Mk K (He.ga K "Floor") (He.ma K (He.ga K "Floor") "__init__")
  m4 : Mk K (He.ga K "Frogs") (He.ma K (He.ga K "Frogs") "__init__")
  m5 : Mk K (He.ga K "Cakes") (He.ma K (He.ga K "Cakes") "__init__")
  m6 : Mk K (He.ga K "Table") (He.ma K (He.ga K "Table") "__init__")
  m7 : Mk K (He.ga K "Meeting") (He.ma K (He.ga K "Meeting") "__init__")
  n1 : He.ga K "Meeting" ≠ He.ga K "Heaps"
  n2 : He.ga K "Meeting" ≠ He.ga K "Hedge"
  n3 : He.ga K "Meeting" ≠ He.ga K "Floor"
  n4 : He.ga K "Meeting" ≠ He.ga K "Frogs"
  n5 : He.ga K "Meeting" ≠ He.ga K "Cakes"
  n6 : He.ga K "Meeting" ≠ He.ga K "Table"
/-- a thing that is no board -/
inductive NoBd (K : PySem.W.Frag) (H : Hp) : V → Prop
  | v {x : V} {T : String} (h : TyB K H x T) (n : ∀ a, x ≠ .ref a) : NoBd K H x
  | l {a : Addr} {xs : List V} (h : H a = some (.lst xs)) : NoBd K H (.ref a)
  | t {a : Addr} {xs : List V} (h : H a = some (.tup xs)) : NoBd K H (.ref a)
  | m {a dx : Addr} {fs : List (Str × V)} (h : H a = some (.ins (He.ga K "Meeting") dx fs)) : NoBd K H (.ref a)
theorem NoBd.ty {K : PySem.W.Frag} {H : Hp} {x : V} (h : NoBd K H x) : (∃ T, TyB K H x T) ∨ ∃ a dx fs, x = .ref a ∧ H a = some (.ins (He.ga K "Meeting") dx fs) := by
  cases h with
  | v h n => exact Or.inl ⟨_, h⟩
  | l h => exact Or.inl ⟨_, .lst (k_sq h)⟩
  | t h => exact Or.inl ⟨_, .tup (k_st h)⟩
  | m h => exact Or.inr ⟨_, _, _, rfl, h⟩
theorem NoBd.ex {K : PySem.W.Frag} {H H' : Hp} {x : V} (h : NoBd K H x) (e : Ex H H') : NoBd K H' x := by
  cases h with
  | v h n => exact .v (TyB.ex h e) n
  | l h => exact .l (e _ _ h)
  | t h => exact .t (e _ _ h)
  | m h => exact .m (e _ _ h)
/-- the class of a board -/
theorem Bv.cls {K : PySem.W.Frag} {H : Hp} {b : Addr} {d : PyData} (h : Bv K H b d) : ∃ C dx fs, H b = some (.ins C dx fs) ∧ (C = He.ga K "Heaps" ∨ C = He.ga K "Hedge" ∨ C = He.ga K "Floor" ∨ C = He.ga K "Frogs" ∨ C = He.ga K "Cakes" ∨ C = He.ga K "Table") := by
  cases h with
  | heaps h => obtain ⟨dx, t, h, _⟩ := h; exact ⟨_, _, _, h, by simp⟩
  | hedge h ok => obtain ⟨dx, t, xs, h, _⟩ := h; exact ⟨_, _, _, h, by simp⟩
  | floor h ok => obtain ⟨dx, t, h, _⟩ := h; exact ⟨_, _, _, h, by simp⟩
  | frogs h ok => obtain ⟨dx, h⟩ := h; exact ⟨_, _, _, h, by simp⟩
  | cakes h => obtain ⟨dx, t, xs, h, _⟩ := h; exact ⟨_, _, _, h, by simp⟩
  | table h r => obtain ⟨dx, t, h, _⟩ := h; exact ⟨_, _, _, h, by simp⟩
theorem NoBd.no {K : PySem.W.Frag} (F : FKinds K) {H : Hp} {x : V} {d : PyData} (h : NoBd K H x) (b : BvV K H x d) : False := by
  obtain ⟨b, rfl, z⟩ := b
  obtain ⟨C, dx, fs, hi, hC⟩ := z.cls
  cases h with
  | v h n => exact n _ rfl
  | l h => rw [h] at hi; cases hi
  | t h => rw [h] at hi; cases hi
  | m h =>
    rw [h] at hi
    cases hi
    rcases hC with h | h | h | h | h | h
    · exact F.n1 h
    · exact F.n2 h
    · exact F.n3 h
    · exact F.n4 h
    · exact F.n5 h
    · exact F.n6 h
def sp_is_board (K : PySem.W.Frag) : Sp := fun vs H Q _ => ∃ x, vs = [x] ∧ (((∃ d, BvV K H x d) ∧ Q (.bl true) H) ∨ (NoBd K H x ∧ Q (.bl false) H))
abbrev N_is_board : List Str := ["thing"]
def t_is_board (K : PySem.W.Frag) (E : XK) : TS := (tRet (tOrV (tOp (rIsA K) (tCB (rTypI K) (tCons (tVar 0) tNil)) (tC (.ref (He.ga K "Heaps")))) (tOrV (tOp (rIsA K) (tCB (rTypI K) (tCons (tVar 0) tNil)) (tC (.ref (He.ga K "Hedge")))) (tOrV (tOp (rIsA K) (tCB (rTypI K) (tCons (tVar 0) tNil)) (tC (.ref (He.ga K "Floor")))) (tOrV (tOp (rIsA K) (tCB (rTypI K) (tCons (tVar 0) tNil)) (tC (.ref (He.ga K "Frogs")))) (tOrV (tOp (rIsA K) (tCB (rTypI K) (tCons (tVar 0) tNil)) (tC (.ref (He.ga K "Cakes")))) (tOp (rIsA K) (tCB (rTypI K) (tCons (tVar 0) tNil)) (tC (.ref (He.ga K "Table"))))))))))
theorem len_is_board {K : PySem.W.Frag} {vs : List V} {H : Hp} {Q : VK} {E : XK} (h : sp_is_board K vs H Q E) : vs.length = 1 := by
  obtain ⟨_, rfl, _⟩ := h; rfl
theorem pure_is_board {K : PySem.W.Frag} (F : FKinds K) (vs : List V) (H : Hp) (Q : VK) (E : XK) (h : sp_is_board K vs H Q E) : t_is_board K E { nx := fun _ H' => Q .non H', rt := Q } (start N_is_board vs) H := by
  obtain ⟨x, rfl, h⟩ := h
  obtain ⟨m1, m2, m3, m4, m5, m6, m7, n1, n2, n3, n4, n5, n6⟩ := F
  unfold t_is_board
  rcases h with ⟨⟨d, b, rfl, hb⟩, q⟩ | ⟨n, q⟩
  · obtain ⟨C, dx, fs, hi, hC⟩ := hb.cls
    have mC : PySem.W.makesIn K C = true := by rcases hC with h | h | h | h | h | h <;> rw [h] <;> first | exact m1.makes | exact m2.makes | exact m3.makes | exact m4.makes | exact m5.makes | exact m6.makes
    repeat walk_at "mst"
    refine k_typI (.i hi) ?_
    repeat walk_at "mst"
    refine k_isA (.cc mC m1.makes) ?_
    refine ⟨_, rfl, ?_⟩
    by_cases e1 : C = He.ga K "Heaps"
    · rw [if_pos (decide_eq_true e1)]; exact q
    rw [if_neg (by rw [decide_eq_false e1]; decide)]
    repeat walk_at "mst"
    refine k_typI (.i hi) ?_
    repeat walk_at "mst"
    refine k_isA (.cc mC m2.makes) ?_
    refine ⟨_, rfl, ?_⟩
    by_cases e2 : C = He.ga K "Hedge"
    · rw [if_pos (decide_eq_true e2)]; exact q
    rw [if_neg (by rw [decide_eq_false e2]; decide)]
    repeat walk_at "mst"
    refine k_typI (.i hi) ?_
    repeat walk_at "mst"
    refine k_isA (.cc mC m3.makes) ?_
    refine ⟨_, rfl, ?_⟩
    by_cases e3 : C = He.ga K "Floor"
    · rw [if_pos (decide_eq_true e3)]; exact q
    rw [if_neg (by rw [decide_eq_false e3]; decide)]
    repeat walk_at "mst"
    refine k_typI (.i hi) ?_
    repeat walk_at "mst"
    refine k_isA (.cc mC m4.makes) ?_
    refine ⟨_, rfl, ?_⟩
    by_cases e4 : C = He.ga K "Frogs"
    · rw [if_pos (decide_eq_true e4)]; exact q
    rw [if_neg (by rw [decide_eq_false e4]; decide)]
    repeat walk_at "mst"
    refine k_typI (.i hi) ?_
    repeat walk_at "mst"
    refine k_isA (.cc mC m5.makes) ?_
    refine ⟨_, rfl, ?_⟩
    by_cases e5 : C = He.ga K "Cakes"
    · rw [if_pos (decide_eq_true e5)]; exact q
    rw [if_neg (by rw [decide_eq_false e5]; decide)]
    repeat walk_at "mst"
    refine k_typI (.i hi) ?_
    repeat walk_at "mst"
    refine k_isA (.cc mC m6.makes) ?_
    have e6 : C = He.ga K "Table" := by rcases hC with h | h | h | h | h | h <;> first | exact h | contradiction
    rw [decide_eq_true e6]
    exact q
  · rcases n.ty with ⟨T, t⟩ | ⟨a, dx, fs, rfl, hi⟩
    · skip
      repeat walk_at "mst"
      refine k_typI (.b t) ?_
      repeat walk_at "mst"
      refine k_isA (.tc _ _) ?_
      refine ⟨_, rfl, ?_⟩
      rw [if_neg (by decide)]
      repeat walk_at "mst"
      refine k_typI (.b t) ?_
      repeat walk_at "mst"
      refine k_isA (.tc _ _) ?_
      refine ⟨_, rfl, ?_⟩
      rw [if_neg (by decide)]
      repeat walk_at "mst"
      refine k_typI (.b t) ?_
      repeat walk_at "mst"
      refine k_isA (.tc _ _) ?_
      refine ⟨_, rfl, ?_⟩
      rw [if_neg (by decide)]
      repeat walk_at "mst"
      refine k_typI (.b t) ?_
      repeat walk_at "mst"
      refine k_isA (.tc _ _) ?_
      refine ⟨_, rfl, ?_⟩
      rw [if_neg (by decide)]
      repeat walk_at "mst"
      refine k_typI (.b t) ?_
      repeat walk_at "mst"
      refine k_isA (.tc _ _) ?_
      refine ⟨_, rfl, ?_⟩
      rw [if_neg (by decide)]
      repeat walk_at "mst"
      refine k_typI (.b t) ?_
      repeat walk_at "mst"
      refine k_isA (.tc _ _) ?_
      exact q
    · skip
      repeat walk_at "mst"
      refine k_typI (.i hi) ?_
      repeat walk_at "mst"
      refine k_isA (.cc m7.makes m1.makes) ?_
      refine ⟨_, rfl, ?_⟩
      rw [if_neg (by rw [decide_eq_false n1]; decide)]
      repeat walk_at "mst"
      refine k_typI (.i hi) ?_
      repeat walk_at "mst"
      refine k_isA (.cc m7.makes m2.makes) ?_
      refine ⟨_, rfl, ?_⟩
      rw [if_neg (by rw [decide_eq_false n2]; decide)]
      repeat walk_at "mst"
      refine k_typI (.i hi) ?_
      repeat walk_at "mst"
      refine k_isA (.cc m7.makes m3.makes) ?_
      refine ⟨_, rfl, ?_⟩
      rw [if_neg (by rw [decide_eq_false n3]; decide)]
      repeat walk_at "mst"
      refine k_typI (.i hi) ?_
      repeat walk_at "mst"
      refine k_isA (.cc m7.makes m4.makes) ?_
      refine ⟨_, rfl, ?_⟩
      rw [if_neg (by rw [decide_eq_false n4]; decide)]
      repeat walk_at "mst"
      refine k_typI (.i hi) ?_
      repeat walk_at "mst"
      refine k_isA (.cc m7.makes m5.makes) ?_
      refine ⟨_, rfl, ?_⟩
      rw [if_neg (by rw [decide_eq_false n5]; decide)]
      repeat walk_at "mst"
      refine k_typI (.i hi) ?_
      repeat walk_at "mst"
      refine k_isA (.cc m7.makes m6.makes) ?_
      rw [decide_eq_false n6]
      exact q
theorem use_isb {K : PySem.W.Frag} {H : Hp} {Q : VK} {E : XK} {x : V} {d : PyData} (h : BvV K H x d) (q : Q (.bl true) H) : sp_is_board K ([x] ++ []) H Q E := ⟨x, rfl, Or.inl ⟨⟨d, h⟩, q⟩⟩
theorem use_isn {K : PySem.W.Frag} {H : Hp} {Q : VK} {E : XK} {x : V} (h : NoBd K H x) (q : Q (.bl false) H) : sp_is_board K ([x] ++ []) H Q E := ⟨x, rfl, Or.inr ⟨h, q⟩⟩
structure FMeeting (K : PySem.W.Frag) : Prop where
  cl : Cls K (He.ga K "Meeting")
  na : NoAttr K (He.ga K "Meeting") "_boards"
def mfs (t : Addr) : List (Str × V) := putF "_boards" (.ref t) []
theorem mfs_get (t : Addr) : (mfs t).lookup ("_boards" : Str) = some (.ref t) := by
  unfold mfs
  rw [lookup_putF, if_pos rfl]
theorem mfs_no (t : Addr) {m : Str} (h : ¬ m = "_boards") : (mfs t).lookup m = none := by
  unfold mfs
  rw [lookup_putF, if_neg h]; rfl
/-- a meeting of these boards -/
def MtAt (K : PySem.W.Frag) (H : Hp) (a : Addr) (ys : List V) : Prop := ∃ dx t, H a = some (.ins (He.ga K "Meeting") dx (mfs t)) ∧ H t = some (.tup ys)
theorem MtAt.kl {K : PySem.W.Frag} {H H' : Hp} {a : Addr} {ys : List V} (h : MtAt K H a ys) (k : Kl H H') : MtAt K H' a ys := let ⟨dx, t, h1, h2⟩ := h; ⟨dx, t, k _ _ h1 (fun ys z => by cases z), k _ _ h2 (fun ys z => by cases z)⟩
/-- a thing that makes no meeting -/
inductive BadM (K : PySem.W.Frag) (H : Hp) : V → Prop
  | ty {x : V} {T : String} (h : TyB K H x T) (n : T ≠ "list") : BadM K H x
  | mt {a dx : Addr} {fs : List (Str × V)} (h : H a = some (.ins (He.ga K "Meeting") dx fs)) : BadM K H (.ref a)
  | long {a : Addr} {ys : List V} (h : H a = some (.lst ys)) (l : 8 < ys.length) : BadM K H (.ref a)
  | item {a : Addr} {ys : List V} (h : H a = some (.lst ys)) (l : ys.length ≤ 1000) (k : ∀ y ∈ ys, (∃ d, BvV K H y d) ∨ NoBd K H y) (b : ∃ y ∈ ys, NoBd K H y) : BadM K H (.ref a)
theorem BadM.ex {K : PySem.W.Frag} {H H' : Hp} {x : V} (h : BadM K H x) (e : Ex H H') : BadM K H' x := by
  cases h with
  | ty t n => exact .ty (TyB.ex t e) n
  | mt h => exact .mt (e _ _ h)
  | long h l => exact .long (e _ _ h) l
  | item h l k b => exact .item (e _ _ h) l (fun y m => (k y m).imp (fun ⟨d, z⟩ => ⟨d, z.kl (Kl.of e)⟩) fun z => z.ex e) (let ⟨y, my, ny⟩ := b; ⟨y, my, ny.ex e⟩)
def sp_Meeting_d_init (K : PySem.W.Frag) : Sp := fun vs H Q E => ∃ (p dx : Addr) (x : V), vs = [.ref p, x] ∧ H p = some (.ins (He.ga K "Meeting") dx []) ∧ (
  (∃ a ys ds, x = .ref a ∧ SqL K H a ys ∧ BvS K H ys ds ∧ ys.length ≤ 8 ∧ ∀ t H', H t = none → (∀ c o, H c = some o → c ≠ p → H' c = some o) → H' t = some (.tup ys) → H' p = some (.ins (He.ga K "Meeting") dx (mfs t)) → Q .non H')
  ∨ (BadM K H x ∧ E (.ref (He.ga K "BadValue")) none H))
abbrev N_Meeting_d_init : List Str := ["self", "boards", "board"]
def t_Meeting_d_init (K : PySem.W.Frag) (E : XK) : TS := (tSeq (tIfS (tOr (tTest (tOp (rNotA K) (tCB (rTypI K) (tCons (tVar 1) tNil)) (tC (.ty "list")))) (tTest (tOp rGtI (tCB (rLenQ K) (tCons (tVar 1) tNil)) (tC (.int 8))))) (tRaise E (.ref (He.ga K "BadValue"))) tNext) (tSeq (tFor (iList K (tVar 1)) (gName 2) (tIfS (tNot (tB (tCall (sp_is_board K) [] E0 (tCons (tVar 2) tNil)))) (tRaise E (.ref (He.ga K "BadValue"))) tNext)) (sFld K (tVar 0) (tCB (rTupL K) (tCons (tVar 1) tNil)) "_boards")))
theorem len_Meeting_d_init {K : PySem.W.Frag} {vs : List V} {H : Hp} {Q : VK} {E : XK} (h : sp_Meeting_d_init K vs H Q E) : vs.length = 2 := by
  obtain ⟨_, _, _, rfl, _⟩ := h; rfl
theorem pure_Meeting_d_init {K : PySem.W.Frag} (F : FMeeting K) (F2 : FKinds K) (vs : List V) (H : Hp) (Q : VK) (E : XK) (h : sp_Meeting_d_init K vs H Q E) : t_Meeting_d_init K E { nx := fun _ H' => Q .non H', rt := Q } (start N_Meeting_d_init vs) H := by
  obtain ⟨p, dx, x, rfl, hp, h⟩ := h
  unfold t_Meeting_d_init
  rcases h with ⟨a, ys, ds, rfl, hS, R, l8, q⟩ | ⟨bad, r⟩
  · repeat walk_at "mst"
    refine k_typI (.b (.lst hS)) ?_
    repeat walk_at "mst"
    refine k_notA (.tt _ _) ?_
    rw [decide_eq_true rfl]
    repeat walk_at "mst"
    refine k_iteD (fun z => absurd z (by omega)) (fun _ => ?_)
    repeat walk_at "mst"
    refine ⟨a, rfl, ⟨_, hS⟩, forK_list (xs := ys) (fun i σ H' => H' = H ∧ ∃ x2 : Option V, σ = [some (.ref p), some (.ref a), x2]) ⟨rfl, _, rfl⟩ ?_ ?_ ?_⟩
    · rintro i σ H' _ ⟨rfl, _⟩; exact hS
    · rintro i x σ H' hx ⟨rfl, x2, rfl⟩
      obtain ⟨d, hd⟩ : ∃ d, ds[i]? = some d := ⟨_, List.getElem?_eq_getElem (by have := (List.getElem?_eq_some_iff.mp hx).1; have := R.1; omega)⟩
      obtain ⟨y, hy, hb⟩ := R.2 i d hd
      rw [hx] at hy; cases hy
      repeat walk_at "mst"
      refine use_isb hb ?_
      repeat walk_at "mst"
      exact ⟨rfl, _, rfl⟩
    · rintro σ H' ⟨rfl, x2, rfl⟩
      repeat walk_at "mst"
      refine fun t ht => ?_
      have npt : p ≠ t := ne_of_none hp ht
      repeat walk_at "mst"
      refine ⟨p, _, dx, [], rfl, (upd_ne npt).trans hp, F.cl, F.na, by show 0 < 1000; decide, ?_⟩
      refine q t _ ht (fun c o z y => ?_) ?_ upd_same
      · rw [upd_ne y, upd_ne (ne_of_none z ht)]; exact z
      · rw [upd_ne npt.symm, upd_same]
  · cases bad with
    | ty t n =>
      repeat walk_at "mst"
      refine k_typI (.b t) ?_
      repeat walk_at "mst"
      refine k_notA (.tt _ _) ?_
      rw [decide_eq_false n]
      repeat walk_at "mst"
      exact r
    | mt h =>
      repeat walk_at "mst"
      refine k_typI (.i h) ?_
      repeat walk_at "mst"
      refine k_notA (.ct _ _) ?_
      repeat walk_at "mst"
      exact r
    | @long a ys h l =>
      repeat walk_at "mst"
      refine k_typI (.b (.lst (k_sq h))) ?_
      repeat walk_at "mst"
      refine k_notA (.tt _ _) ?_
      rw [decide_eq_true rfl]
      repeat walk_at "mst"
      refine k_iteD (fun z => ?_) (fun z => absurd (show (8 : Int) < ys.length by omega) z)
      repeat walk_at "mst"
      exact r
    | @item a ys h l k b =>
      repeat walk_at "mst"
      refine k_typI (.b (.lst (k_sq h))) ?_
      repeat walk_at "mst"
      refine k_notA (.tt _ _) ?_
      rw [decide_eq_true rfl]
      repeat walk_at "mst"
      refine k_iteD (fun z => ?_) (fun z => ?_)
      · repeat walk_at "mst"
        exact r
      repeat walk_at "mst"
      refine ⟨a, rfl, ⟨_, k_sq h⟩, forK_list (xs := ys) (fun i σ H' => H' = H ∧ (∀ y ∈ ys.take i, ∃ d, BvV K H y d) ∧ ∃ x2 : Option V, σ = [some (.ref p), some (.ref a), x2]) ⟨rfl, fun y m => (nomatch m), _, rfl⟩ ?_ ?_ ?_⟩
      · rintro i σ H' _ ⟨rfl, _⟩; exact k_sq h
      · rintro i x σ H' hx ⟨rfl, pre, x2, rfl⟩
        rcases k x (List.mem_of_getElem? hx) with ⟨d, hd⟩ | hn
        · repeat walk_at "mst"
          refine use_isb hd ?_
          repeat walk_at "mst"
          refine ⟨rfl, fun y m => ?_, _, rfl⟩
          rw [List.take_add_one, hx] at m
          rcases List.mem_append.mp m with m | m
          · exact pre y m
          · have : y = x := by simpa using m
            rw [this]; exact ⟨d, hd⟩
        · repeat walk_at "mst"
          refine use_isn hn ?_
          repeat walk_at "mst"
          exact r
      · rintro σ H' ⟨rfl, pre, x2, rfl⟩
        obtain ⟨y, my, hy⟩ := b
        rw [List.take_of_length_le (Nat.le_refl _)] at pre
        obtain ⟨d, hd⟩ := pre y my
        exact (hy.no F2 hd).elim
/-- a meeting is made -/
theorem mk_mt {K : PySem.W.Frag} {H : Hp} {Q : Addr → Hp → Prop} {E : XK} {a : Addr} {ys : List V} {ds : List PyData} (hS : SqL K H a ys) (R : BvS K H ys ds) (l8 : ys.length ≤ 8) (k : ∀ x H', H x = none → Ex H H' → MtAt K H' x ys → Q x H') :
    ∀ x dx, H x = none → H dx = none → dx ≠ x → sp_Meeting_d_init K (.ref x :: ([.ref a] ++ [])) (upd (upd H dx (.own x)) x (.ins (He.ga K "Meeting") dx [])) (fun v H2 => v = .non ∧ Q x H2) E := by
  intro x dx hx hd hne
  have e : Ex H (upd (upd H dx (.own x)) x (.ins (He.ga K "Meeting") dx [])) := (Evl.Ex.new hd).trans (Evl.Ex.new (by rw [upd_ne hne.symm]; exact hx))
  refine ⟨x, dx, _, rfl, upd_same, Or.inl ⟨a, ys, ds, rfl, Evl.ex_l e hS, R.kl (Kl.of e), l8, fun t H' ht kp h1 h2 => ⟨rfl, k x H' hx (fun c o z => kp c o (e _ _ z) (ne_of_none z hx)) ⟨dx, t, h2, h1⟩⟩⟩⟩
/-- what the makers of boards promise -/
def sp_bd (K : PySem.W.Frag) : Sp := fun vs H Q _ => ∃ t, vs = [.ref t] ∧ TapeAt H t ∧ ∀ y H' g, Tk t H H' → TapeAt H' t → BdV K H' y g → Q y H'
theorem TapeAt.ne {H : Hp} {t D : Addr} (h : TapeAt H t) (n : H D = none) : t ≠ D := let ⟨_, _, _, z⟩ := h; ne_of_none z n
/-- what stays when a fresh list changes -/
theorem Tk.mu {t D : Addr} {H1 H H' : Hp} (a : Tk t H1 H) (hD : H1 D = none) (k : ∀ c o, H c = some o → c ≠ D → H' c = some o) : Tk t H1 H' := fun c o z n => k _ _ (a _ _ z n) (ne_of_none z hD)
def sp_law_draw (K : PySem.W.Frag) : Sp := fun vs H Q _ => ∃ (t : Addr) (n : Int), vs = [.ref t, .int n] ∧ TapeAt H t ∧ 1 ≤ n ∧ n ≤ 1000000 ∧ ∀ r H', 0 ≤ r → r < n → Tk t H H' → TapeAt H' t → Q (.int r) H'
abbrev N_law_draw : List Str := ["tape", "size", "got"]
def t_law_draw (K : PySem.W.Frag) (E : XK) : TS := (tSeq (tIfS (tAnd (tTest (tOp rEq (tOp (rIxL K) (tVar 0) (tC (.int 1))) (tC (.int 1)))) (tTest (tOp rGtI (tOp (rIxL K) (tVar 0) (tC (.int 0))) (tC (.int 0))))) (tSeq (tAsg (tOp rModI (tCB rIntI (tCons (tOp (rIxL K) (tVar 0) (tC (.int 0))) tNil)) (tVar 1)) (gName 2)) (tSeq (tAsg (tOp rDivW (tOp (rIxL K) (tVar 0) (tC (.int 0))) (tVar 1)) (gSub (tVar 0) (tC (.int 0)) L2.rSetL)) (tRet (tVar 2)))) tNext) (tSeq (tAsg (tOp rModI (tCB rIntI (tCons (tOp rAddI (tOp rMulI (tOp (rIxL K) (tVar 0) (tC (.int 2))) (tC (.int 40692))) (tC (.int 3791))) tNil)) (tC (.int 2147483399))) (gSub (tVar 0) (tC (.int 2)) L2.rSetL)) (tRet (tOp rModI (tCB rIntI (tCons (tOp rDivI (tOp rModI (tCB rIntI (tCons (tOp rAddI (tOp rMulI (tOp (rIxL K) (tVar 0) (tC (.int 2))) (tC (.int 16807))) (tC (.int 9))) tNil)) (tC (.int 2147483647))) (tC (.int 5))) tNil)) (tVar 1)))))
theorem len_law_draw {K : PySem.W.Frag} {vs : List V} {H : Hp} {Q : VK} {E : XK} (h : sp_law_draw K vs H Q E) : vs.length = 2 := by
  obtain ⟨_, _, rfl, _⟩ := h; rfl
theorem pure_law_draw {K : PySem.W.Frag} (vs : List V) (H : Hp) (Q : VK) (E : XK) (h : sp_law_draw K vs H Q E) : t_law_draw K E { nx := fun _ H' => Q .non H', rt := Q } (start N_law_draw vs) H := by
  obtain ⟨t, n, rfl, ⟨a, b, c, ht⟩, n1, n2, q⟩ := h
  unfold t_law_draw
  repeat walk_at "mst"
  refine k_ixL (k_sq ht) (v := .int b) (by rfl) ?_
  repeat walk_at "mst"
  refine k_iteD (fun hb => ?_) (fun hb => ?_)
  · repeat walk_at "mst"
    refine k_ixL (k_sq ht) (v := .int a) (by rfl) ?_
    repeat walk_at "mst"
    refine k_iteD (fun ha => ?_) (fun ha => ?_)
    · repeat walk_at "mst"
      refine k_ixL (k_sq ht) (v := .int a) (by rfl) ?_
      repeat walk_at "mst"
      refine k_ixL (k_sq ht) (v := .int a) (by rfl) ?_
      repeat walk_at "mst"
      refine ⟨_, _, rfl, rfl, ⟨by omega, Nat.lt_trans ((Nat.log2_lt (by omega)).mpr (show n.natAbs < 2 ^ 20 by omega)) (by decide)⟩, ?_⟩
      repeat walk_at "mst"
      refine ⟨t, _, 0, 0, rfl, rfl, ht, rfl, ?_⟩
      repeat walk_at "mst"
      exact q _ _ (Int.emod_nonneg _ (by omega)) (Int.emod_lt_of_pos _ (by omega)) (fun c o z n => (upd_ne n).trans z) ⟨_, _, _, upd_same⟩
    · repeat walk_at "mst"
      refine k_ixL (k_sq ht) (v := .int c) (by rfl) ?_
      repeat walk_at "mst"
      refine ⟨t, _, 2, 2, rfl, rfl, ht, rfl, ?_⟩
      have kp : Tk t H (upd H t (HO.lst [V.int a, V.int b, V.int ((c * 40692 + 3791) % 2147483399)])) := fun c o z n => (upd_ne n).trans z
      have hs : upd H t (HO.lst [V.int a, V.int b, V.int ((c * 40692 + 3791) % 2147483399)]) t = some (HO.lst [V.int a, V.int b, V.int ((c * 40692 + 3791) % 2147483399)]) := upd_same
      rw [show [V.int a, V.int b, V.int c].set 2 (V.int ((c * 40692 + 3791) % 2147483399)) = [V.int a, V.int b, V.int ((c * 40692 + 3791) % 2147483399)] from rfl]
      generalize upd H t (HO.lst [V.int a, V.int b, V.int ((c * 40692 + 3791) % 2147483399)]) = H1 at *
      repeat walk_at "mst"
      refine k_ixL (k_sq hs) (v := .int ((c * 40692 + 3791) % 2147483399)) (by rfl) ?_
      repeat walk_at "mst"
      exact q _ _ (Int.emod_nonneg _ (by omega)) (Int.emod_lt_of_pos _ (by omega)) kp ⟨_, _, _, hs⟩
  · repeat walk_at "mst"
    refine k_ixL (k_sq ht) (v := .int c) (by rfl) ?_
    repeat walk_at "mst"
    refine ⟨t, _, 2, 2, rfl, rfl, ht, rfl, ?_⟩
    have kp : Tk t H (upd H t (HO.lst [V.int a, V.int b, V.int ((c * 40692 + 3791) % 2147483399)])) := fun c o z n => (upd_ne n).trans z
    have hs : upd H t (HO.lst [V.int a, V.int b, V.int ((c * 40692 + 3791) % 2147483399)]) t = some (HO.lst [V.int a, V.int b, V.int ((c * 40692 + 3791) % 2147483399)]) := upd_same
    rw [show [V.int a, V.int b, V.int c].set 2 (V.int ((c * 40692 + 3791) % 2147483399)) = [V.int a, V.int b, V.int ((c * 40692 + 3791) % 2147483399)] from rfl]
    generalize upd H t (HO.lst [V.int a, V.int b, V.int ((c * 40692 + 3791) % 2147483399)]) = H1 at *
    repeat walk_at "mst"
    refine k_ixL (k_sq hs) (v := .int ((c * 40692 + 3791) % 2147483399)) (by rfl) ?_
    repeat walk_at "mst"
    exact q _ _ (Int.emod_nonneg _ (by omega)) (Int.emod_lt_of_pos _ (by omega)) kp ⟨_, _, _, hs⟩
theorem use_draw {K : PySem.W.Frag} {H : Hp} {Q : VK} {E : XK} {t : Addr} {n : Int} (h : TapeAt H t) (n1 : 1 ≤ n) (n2 : n ≤ 1000000) (q : ∀ r H', 0 ≤ r → r < n → Tk t H H' → TapeAt H' t → Q (.int r) H') : sp_law_draw K ([.ref t, .int n] ++ []) H Q E := ⟨t, n, rfl, h, n1, n2, q⟩
/-- a thing of a known kind: whether it is an int within bounds -/
def wholeV (x : V) (lo hi : Int) : Bool := match x with
  | .int i => decide (lo ≤ i) && decide (i ≤ hi)
  | _ => false
def sp_is_whole (K : PySem.W.Frag) : Sp := spR (fun vs H => ∃ (x : V) (T : String) (lo hi : Int), vs = [x, .int lo, .int hi] ∧ TyB K H x T)
  (fun vs H v H' => ∃ (x : V) (lo hi : Int), vs = [x, .int lo, .int hi] ∧ v = .bl (wholeV x lo hi) ∧ H' = H)
abbrev N_is_whole : List Str := ["thing", "least", "most"]
def t_is_whole (K : PySem.W.Frag) (E : XK) : TS := (tRet (tAndV (tOp rIsTy (tCB (rTyp K) (tCons (tVar 0) tNil)) (tC (.ty "int"))) (tChain rLeI rLeI (tVar 1) (tVar 0) (tVar 2))))
theorem len_is_whole {K : PySem.W.Frag} {vs : List V} {H : Hp} {Q : VK} {E : XK} (h : sp_is_whole K vs H Q E) : vs.length = 3 := by
  obtain ⟨⟨_, _, _, _, rfl, _⟩, _⟩ := h; rfl
theorem whole_ty {K : PySem.W.Frag} {H : Hp} {x : V} {T : String} (t : TyB K H x T) : (T = "int" ∧ ∃ i, x = .int i) ∨ (T ≠ "int" ∧ ∀ lo hi, wholeV x lo hi = false) := by
  cases t
  case int i => exact Or.inl ⟨rfl, i, rfl⟩
  all_goals exact Or.inr ⟨by decide, fun _ _ => rfl⟩
theorem pure_is_whole {K : PySem.W.Frag} (vs : List V) (H : Hp) (Q : VK) (E : XK) (h : sp_is_whole K vs H Q E) : t_is_whole K E { nx := fun _ H' => Q .non H', rt := Q } (start N_is_whole vs) H := by
  obtain ⟨⟨x, T, lo, hi, rfl, ht⟩, q⟩ := h
  unfold t_is_whole
  repeat walk_at "mst"
  refine ⟨x, T, rfl, ht, ?_⟩
  repeat walk_at "mst"
  rcases whole_ty ht with ⟨e, i, rfl⟩ | ⟨e, hf⟩
  · refine k_iteD (fun _ => ?_) (fun hn => absurd e hn)
    repeat walk_at "mst"
    refine k_iteD (fun h1 => ?_) (fun h1 => ?_)
    · repeat walk_at "mst"
      refine q _ _ ⟨_, lo, hi, rfl, ?_, rfl⟩
      show V.bl (decide (i ≤ hi)) = V.bl (decide (lo ≤ i) && decide (i ≤ hi))
      rw [decide_eq_true h1, Bool.true_and]
    · refine q _ _ ⟨_, lo, hi, rfl, ?_, rfl⟩
      show V.bl false = V.bl (decide (lo ≤ i) && decide (i ≤ hi))
      rw [decide_eq_false h1, Bool.false_and]
  · refine k_iteD (fun hy => absurd hy e) (fun _ => ?_)
    exact q _ _ ⟨x, lo, hi, rfl, by rw [hf], rfl⟩
def sp_Heaps_d_init (K : PySem.W.Frag) : Sp := fun vs H Q E => ∃ (p dx : Addr) (x : V), vs = [.ref p, x] ∧ H p = some (.ins (He.ga K "Heaps") dx []) ∧ (
  (∃ a ns, x = .ref a ∧ SqL K H a (ns.map V.int) ∧ OkS ns ∧ ∀ t H', H t = none → (∀ c o, H c = some o → c ≠ p → H' c = some o) → H' t = some (.tup (ns.map V.int)) → H' p = some (.ins (He.ga K "Heaps") dx (hfs t)) → Q .non H')
  ∨ (∃ a xs, x = .ref a ∧ SqL K H a xs ∧ xs.length ≤ 1000 ∧ (∀ y ∈ xs, ∃ T, TyB K H y T) ∧ (8 < xs.length ∨ ∃ y ∈ xs, wholeV y 0 30 = false) ∧ E (.ref (He.ga K "BadValue")) none H)
  ∨ (∃ T, TyB K H x T ∧ T ≠ "list" ∧ E (.ref (He.ga K "BadValue")) none H))
theorem k_NT {H : Hp} {Q : VK} {a b : String} (q : Q (.bl (!decide (a = b))) H) : rNT (.ty a) (.ty b) H Q := ⟨a, b, rfl, rfl, q⟩
abbrev N_Heaps_d_init : List Str := ["self", "sizes", "size"]
def t_Heaps_d_init (K : PySem.W.Frag) (E : XK) : TS := (tSeq (tIfS (tOr (tTest (tOp rNT (tCB (rTyp K) (tCons (tVar 1) tNil)) (tC (.ty "list")))) (tTest (tOp rGtI (tCB (rLenQ K) (tCons (tVar 1) tNil)) (tC (.int 8))))) (tRaise E (.ref (He.ga K "BadValue"))) tNext) (tSeq (tFor (iList K (tVar 1)) (gName 2) (tIfS (tNot (tB (tCall (sp_is_whole K) [] E0 (tCons (tVar 2) (tCons (tC (.int 0)) (tCons (tC (.int 30)) tNil)))))) (tRaise E (.ref (He.ga K "BadValue"))) tNext)) (sFld K (tVar 0) (tCB (rTupL K) (tCons (tVar 1) tNil)) "_sizes")))
theorem len_Heaps_d_init {K : PySem.W.Frag} {vs : List V} {H : Hp} {Q : VK} {E : XK} (h : sp_Heaps_d_init K vs H Q E) : vs.length = 2 := by
  obtain ⟨_, _, _, rfl, _⟩ := h; rfl
theorem pure_Heaps_d_init {K : PySem.W.Frag} (F : FHeaps K) (vs : List V) (H : Hp) (Q : VK) (E : XK) (h : sp_Heaps_d_init K vs H Q E) : t_Heaps_d_init K E { nx := fun _ H' => Q .non H', rt := Q } (start N_Heaps_d_init vs) H := by
  obtain ⟨p, dx, x, rfl, hp, h⟩ := h
  unfold t_Heaps_d_init
  rcases h with ⟨a, ns, rfl, hS, ok, q⟩ | ⟨a, xs, rfl, hS, few, ty, bad, r⟩ | ⟨T, ty, no, r⟩
  · obtain ⟨o8, ob⟩ := ok
    repeat walk_at "mst"
    refine ⟨_, "list", rfl, .lst hS, ?_⟩
    repeat walk_at "mst"
    refine k_NT ?_
    rw [decide_eq_true rfl]
    repeat walk_at "mst"
    refine k_iteD (fun z => absurd z (by rw [List.length_map]; omega)) (fun _ => ?_)
    repeat walk_at "mst"
    refine ⟨a, rfl, ⟨_, hS⟩, forK_list (xs := ns.map V.int) (fun i σ H' => H' = H ∧ ∃ x2 : Option V, σ = [some (.ref p), some (.ref a), x2]) ⟨rfl, _, rfl⟩ ?_ ?_ ?_⟩
    · rintro i σ H' _ ⟨rfl, _⟩; exact hS
    · rintro i x σ H' hx ⟨rfl, x2, rfl⟩
      obtain ⟨z, hz, rfl⟩ := get_int hx
      have bz := ob z (List.mem_of_getElem? hz)
      repeat walk_at "mst"
      refine ⟨⟨V.int z, "int", _, _, rfl, .int z⟩, ?_⟩
      rintro v H1 ⟨x', lo, hi, e, rfl, rfl⟩
      cases e
      repeat walk_at "mst"
      have e : wholeV (V.int z) 0 30 = true := by
        show (decide (0 ≤ z) && decide (z ≤ 30)) = true
        rw [decide_eq_true bz.1, decide_eq_true bz.2]; rfl
      rw [e]
      repeat walk_at "mst"
      exact ⟨rfl, _, rfl⟩
    · rintro σ H' ⟨rfl, x2, rfl⟩
      repeat walk_at "mst"
      refine fun t ht => ?_
      have npt : p ≠ t := ne_of_none hp ht
      repeat walk_at "mst"
      refine ⟨p, _, dx, [], rfl, (upd_ne npt).trans hp, F.cl, F.na, by show 0 < 1000; decide, ?_⟩
      refine q t _ ht (fun c o z y => ?_) ?_ upd_same
      · rw [upd_ne y, upd_ne (ne_of_none z ht)]; exact z
      · rw [upd_ne npt.symm, upd_same]
  · repeat walk_at "mst"
    refine ⟨_, "list", rfl, .lst hS, ?_⟩
    repeat walk_at "mst"
    refine k_NT ?_
    rw [decide_eq_true rfl]
    repeat walk_at "mst"
    refine k_iteD (fun z => ?_) (fun z => ?_)
    · repeat walk_at "mst"
      exact r
    have bad2 : ∃ y ∈ xs, wholeV y 0 30 = false := bad.resolve_left (by omega)
    repeat walk_at "mst"
    refine ⟨a, rfl, ⟨_, hS⟩, forK_list (xs := xs) (fun i σ H' => H' = H ∧ (∀ y ∈ xs.take i, wholeV y 0 30 = true) ∧ ∃ x2 : Option V, σ = [some (.ref p), some (.ref a), x2]) ⟨rfl, fun y m => (nomatch m), _, rfl⟩ ?_ ?_ ?_⟩
    · rintro i σ H' _ ⟨rfl, _⟩; exact hS
    · rintro i x σ H' hx ⟨rfl, pre, x2, rfl⟩
      obtain ⟨U, tU⟩ := ty x (List.mem_of_getElem? hx)
      repeat walk_at "mst"
      refine ⟨⟨x, U, _, _, rfl, tU⟩, ?_⟩
      rintro v H1 ⟨x', lo, hi, e, rfl, rfl⟩
      cases e
      repeat walk_at "mst"
      cases hw : wholeV x 0 30
      · repeat walk_at "mst"
        exact r
      · repeat walk_at "mst"
        refine ⟨rfl, fun y m => ?_, _, rfl⟩
        rw [List.take_add_one, hx] at m
        rcases List.mem_append.mp m with m | m
        · exact pre y m
        · have : y = x := by simpa using m
          rw [this]; exact hw
    · rintro σ H' ⟨rfl, pre, x2, rfl⟩
      obtain ⟨y, my, hy⟩ := bad2
      rw [List.take_of_length_le (Nat.le_refl _)] at pre
      rw [pre y my] at hy
      cases hy
  · repeat walk_at "mst"
    refine ⟨_, T, rfl, ty, ?_⟩
    repeat walk_at "mst"
    refine k_NT ?_
    rw [decide_eq_false no]
    repeat walk_at "mst"
    exact r
/-- a board is made -/
theorem mk_hp {K : PySem.W.Frag} {H : Hp} {Q : Addr → Hp → Prop} {E : XK} {a : Addr} {ns : List Int} (hS : SqL K H a (ns.map V.int)) (ok : OkS ns) (k : ∀ x H', H x = none → Ex H H' → HpAt K H' x ns → Q x H') :
    ∀ x dx, H x = none → H dx = none → dx ≠ x → sp_Heaps_d_init K (.ref x :: ([.ref a] ++ [])) (upd (upd H dx (.own x)) x (.ins (He.ga K "Heaps") dx [])) (fun v H2 => v = .non ∧ Q x H2) E := by
  intro x dx hx hd hne
  have e : Ex H (upd (upd H dx (.own x)) x (.ins (He.ga K "Heaps") dx [])) := (Evl.Ex.new hd).trans (Evl.Ex.new (by rw [upd_ne hne.symm]; exact hx))
  refine ⟨x, dx, _, rfl, upd_same, Or.inl ⟨a, ns, rfl, Evl.ex_l e hS, ok, fun t H' ht kp h1 h2 => ⟨rfl, k x H' hx (fun c o z => kp c o (e _ _ z) (ne_of_none z hx)) ⟨dx, t, h2, h1⟩⟩⟩⟩
def sp_law_heaps (K : PySem.W.Frag) : Sp := sp_bd K
abbrev N_law_heaps : List Str := ["tape", "k"]
def t_law_heaps (K : PySem.W.Frag) (E : XK) : TS := (tRet (tMake (He.ga K "Heaps") (sp_Heaps_d_init K) [] E0 (tCons (tLc (iRng1 (tCons (tCall (sp_law_draw K) [] E0 (tCons (tVar 0) (tCons (tC (.int 3)) tNil))) tNil)) (gName 1) tYes (tCall (sp_law_draw K) [] E0 (tCons (tVar 0) (tCons (tC (.int 4)) tNil))) [1]) tNil)))
theorem len_law_heaps {K : PySem.W.Frag} {vs : List V} {H : Hp} {Q : VK} {E : XK} (h : sp_law_heaps K vs H Q E) : vs.length = 1 := by
  obtain ⟨_, rfl, _⟩ := h; rfl
theorem pure_law_heaps {K : PySem.W.Frag} (vs : List V) (H : Hp) (Q : VK) (E : XK) (h : sp_law_heaps K vs H Q E) : t_law_heaps K E { nx := fun _ H' => Q .non H', rt := Q } (start N_law_heaps vs) H := by
  obtain ⟨t, rfl, ht, q⟩ := h
  unfold t_law_heaps
  repeat walk_at "mst"
  refine use_draw (n := 3) ht (by decide) (by decide) fun r H1 r0 r1 k1 ht1 => ?_
  repeat walk_at "mst"
  refine ⟨_, rfl, by omega, by omega, ?_⟩
  refine lcR_rst (n := r.toNat) (fun k acc H' => Tk t H1 H' ∧ TapeAt H' t ∧ ∃ ns : List Int, acc = ns.map V.int ∧ ∀ z ∈ ns, 0 ≤ z ∧ z < 4) (Nat.lt_of_le_of_lt (show _ ≤ 100 by omega) (by decide)) ?_ (fun D hD => ⟨Tk.of (Evl.Ex.new hD), ht1.ex (Evl.Ex.new hD), [], rfl, fun z m => nomatch m⟩) ?_ ?_
  · rintro D k acc ys H2 H3 hD hd kp ⟨a, b, c⟩
    exact ⟨a.mu hD kp, b.kp (ht1.ne hD) kp, c⟩
  · rintro k acc H2 D ys hD hd hk la ⟨a, b, ns, rfl, hz⟩ R r
    repeat walk_at "mst"
    refine use_draw (n := 4) b (by decide) (by decide) fun v H3 v0 v1 k3 t3 => ?_
    refine r _ H3 (k3 _ _ hd (ht1.ne hD).symm) ⟨a.trans k3, t3, ns ++ [v], by rw [List.map_append]; rfl, fun z m => ?_⟩
    rcases List.mem_append.mp m with m | m
    · exact hz z m
    · rw [List.mem_singleton] at m; omega
  · rintro D acc H2 hD la hd ⟨a, b, ns, rfl, hz⟩
    rw [List.length_map] at la
    have ok : OkS ns := ⟨by omega, fun z m => by have := hz z m; omega⟩
    repeat walk_at "mst"
    refine mk_hp (k_sq hd) ok fun x H3 nx e3 hx => ?_
    repeat walk_at "mst"
    exact q _ H3 (_, _) (k1.trans (a.trans (Tk.of e3))) (b.ex e3) ⟨x, rfl, .heaps hx ok⟩
/-- whether a thing is a colour -/
def colV : V → Bool
  | .str s => decide (s = "blue") || (decide (s = "green") || decide (s = "red"))
  | _ => false
/-- a thing that is no edge -/
def BadE (K : PySem.W.Frag) (H : Hp) (y : V) : Prop := (∃ T, TyB K H y T ∧ T ≠ "tuple") ∨ (∃ a xs, y = .ref a ∧ H a = some (.tup xs) ∧ xs.length ≤ 1000 ∧ xs.length ≠ 3) ∨ ∃ a y1 y2 y3, y = .ref a ∧ H a = some (.tup [y1, y2, y3]) ∧ (∃ T, TyB K H y1 T) ∧ (∃ T, TyB K H y2 T) ∧ (∃ T, TyB K H y3 T) ∧ (wholeV y1 0 15 = false ∨ wholeV y2 0 15 = false ∨ colV y3 = false)
theorem BadE.ex {K : PySem.W.Frag} {H H' : Hp} {y : V} (h : BadE K H y) (e : Ex H H') : BadE K H' y := by
  rcases h with ⟨T, t, n⟩ | ⟨a, xs, q, z, l⟩ | ⟨a, y1, y2, y3, q, z, ⟨T, t⟩, ⟨U, u⟩, ⟨W, w⟩, h⟩
  · exact Or.inl ⟨T, TyB.ex t e, n⟩
  · exact Or.inr (Or.inl ⟨a, xs, q, e _ _ z, l⟩)
  · exact Or.inr (Or.inr ⟨a, y1, y2, y3, q, e _ _ z, ⟨T, TyB.ex t e⟩, ⟨U, TyB.ex u e⟩, ⟨W, TyB.ex w e⟩, h⟩)
def sp_check_edge (K : PySem.W.Frag) : Sp := fun vs H Q E => ∃ (y : V), vs = [y] ∧ ((∃ c, EdAt H y c ∧ OkE c ∧ ∀ H', Ex H H' → Q .non H') ∨ (BadE K H y ∧ ∀ H', Ex H H' → E (.ref (He.ga K "BadValue")) none H'))
theorem wh_in {i lo hi : Int} (h : lo ≤ i) (h2 : i ≤ hi) : wholeV (.int i) lo hi = true := by
  show (decide (lo ≤ i) && decide (i ≤ hi)) = true
  rw [decide_eq_true h, decide_eq_true h2]; rfl
theorem col_ok {s : Str} (h : OkC3 s) : colV (.str s) = true := by
  rcases h with rfl | rfl | rfl <;> decide +kernel
theorem ty_strV {K : PySem.W.Frag} {H : Hp} {y : V} {T : String} (t : TyB K H y T) (e : T = "str") : ∃ s, y = .str s := by
  cases t <;> first | exact ⟨_, rfl⟩ | exact absurd e (by decide)
theorem k_col {K : PySem.W.Frag} (F : FCOLOURS K) {s : Str} {H : Hp} {Q : VK} (q : Q (.bl (colV (.str s))) H) : rIn K false (.str s) (.ref (He.ga K "COLOURS")) H Q := by
  refine ⟨_, _, rfl, Or.inr (F.tu H), rfl, rfl, ?_⟩
  have e : inV (V.str s) [.str "blue", .str "green", .str "red"] = colV (.str s) := by
    have key : ∀ d : Str, eqV (V.str d) (V.str s) = decide (s = d) := fun d => decide_eq_decide.mpr ⟨fun h => h.symm, fun h => h.symm⟩
    show (eqV (V.str "blue") (V.str s) || (eqV (V.str "green") (V.str s) || (eqV (V.str "red") (V.str s) || false))) = _
    rw [key, key, key, Bool.or_false]
    rfl
  rw [e]
  exact q
abbrev N_check_edge : List Str := ["edge", "knot"]
def t_check_edge (K : PySem.W.Frag) (E : XK) : TS := (tSeq (tIfS (tOr (tTest (tOp rNT (tCB (rTyp K) (tCons (tVar 0) tNil)) (tC (.ty "tuple")))) (tTest (tOp rNe (tCB (rLenQ K) (tCons (tVar 0) tNil)) (tC (.int 3))))) (tRaise E (.ref (He.ga K "BadValue"))) tNext) (tSeq (tFor (iTup K (tSl (rSlA K) (tVar 0) tNoPart (tPart (tC (.int 2))))) (gName 1) (tIfS (tNot (tB (tCall (sp_is_whole K) [] E0 (tCons (tVar 1) (tCons (tC (.int 0)) (tCons (tC (.int 15)) tNil)))))) (tRaise E (.ref (He.ga K "BadValue"))) tNext)) (tIfS (tNot (tAnd (tTest (tOp rIsTy (tCB (rTyp K) (tCons (tOp (rIxT K) (tVar 0) (tC (.int 2))) tNil)) (tC (.ty "str")))) (tTest (tOp (rIn K false) (tOp (rIxT K) (tVar 0) (tC (.int 2))) (tC (.ref (He.ga K "COLOURS"))))))) (tRaise E (.ref (He.ga K "BadValue"))) tNext)))
theorem len_check_edge {K : PySem.W.Frag} {vs : List V} {H : Hp} {Q : VK} {E : XK} (h : sp_check_edge K vs H Q E) : vs.length = 1 := by
  obtain ⟨_, rfl, _⟩ := h; rfl
theorem pure_check_edge {K : PySem.W.Frag} (F : FCOLOURS K) (vs : List V) (H : Hp) (Q : VK) (E : XK) (h : sp_check_edge K vs H Q E) : t_check_edge K E { nx := fun _ H' => Q .non H', rt := Q } (start N_check_edge vs) H := by
  obtain ⟨y, rfl, h⟩ := h
  have three : ∀ (a : Addr) (y1 y2 y3 : V), y = .ref a → H a = some (.tup [y1, y2, y3]) → (∃ T, TyB K H y1 T) → (∃ T, TyB K H y2 T) → (∃ T, TyB K H y3 T) → ((wholeV y1 0 15 = false ∨ wholeV y2 0 15 = false ∨ colV y3 = false) → ∀ H', Ex H H' → E (.ref (He.ga K "BadValue")) none H') → (wholeV y1 0 15 = true → wholeV y2 0 15 = true → colV y3 = true → ∀ H', Ex H H' → Q .non H') → t_check_edge K E { nx := fun _ H' => Q .non H', rt := Q } (start N_check_edge [y]) H := by
    rintro a y1 y2 y3 rfl ha t1 t2 t3 bad good
    unfold t_check_edge
    repeat walk_at "mst"
    refine ⟨_, "tuple", rfl, .tup (k_st ha), ?_⟩
    repeat walk_at "mst"
    refine k_NT ?_
    rw [decide_eq_true rfl]
    repeat walk_at "mst"
    refine k_iteD (fun z => absurd rfl z) (fun _ => ?_)
    repeat walk_at "mst"
    refine k_slH ha fun sl H0 e0 hsl => ?_
    rw [show (2 : Int) = ((2 : Nat) : Int) from rfl, cut_cut (by show 2 ≤ 3; decide)] at hsl
    have hsl : H0 sl = some (.tup [y1, y2]) := hsl
    have ha0 := e0 _ _ ha
    repeat walk_at "mst"
    refine ⟨sl, rfl, ⟨_, k_st hsl⟩, forK_tup (xs := [y1, y2]) (fun i σ H' => H' = H0 ∧ (∀ y ∈ [y1, y2].take i, wholeV y 0 15 = true) ∧ ∃ x1 : Option V, σ = [some (.ref a), x1]) ⟨rfl, fun y m => (nomatch m), _, rfl⟩ ?_ ?_ ?_⟩
    · rintro i σ H' _ ⟨rfl, _⟩; exact k_st hsl
    · rintro i x σ H' hx ⟨rfl, pre, x1, rfl⟩
      have mx := List.mem_of_getElem? hx
      have tx : ∃ T, TyB K H' x T := by
        simp only [List.mem_cons, List.not_mem_nil, or_false] at mx
        rcases mx with rfl | rfl
        · obtain ⟨T, t⟩ := t1; exact ⟨T, TyB.ex t e0⟩
        · obtain ⟨T, t⟩ := t2; exact ⟨T, TyB.ex t e0⟩
      obtain ⟨U, tU⟩ := tx
      repeat walk_at "mst"
      refine ⟨⟨x, U, _, _, rfl, tU⟩, ?_⟩
      rintro v H1 ⟨x', lo, hi, e, rfl, rfl⟩
      cases e
      repeat walk_at "mst"
      cases hw : wholeV x 0 15
      · repeat walk_at "mst"
        refine bad ?_ _ e0
        simp only [List.mem_cons, List.not_mem_nil, or_false] at mx
        rcases mx with rfl | rfl
        · exact Or.inl hw
        · exact Or.inr (Or.inl hw)
      · repeat walk_at "mst"
        refine ⟨rfl, fun y m => ?_, _, rfl⟩
        rw [List.take_add_one, hx] at m
        rcases List.mem_append.mp m with m | m
        · exact pre y m
        · have : y = x := by simpa using m
          rw [this]; exact hw
    · rintro σ H' ⟨rfl, pre, x1, rfl⟩
      have p1 := pre _ (List.mem_cons_self ..)
      have p2 := pre _ (List.mem_cons_of_mem _ (List.mem_cons_self ..))
      obtain ⟨T, t3⟩ := t3
      repeat walk_at "mst"
      refine ⟨_, T, rfl, TyB.ex t3 e0, ?_⟩
      repeat walk_at "mst"
      refine k_iteD (fun z => ?_) (fun z => ?_)
      · obtain ⟨s, rfl⟩ := ty_strV t3 z
        repeat walk_at "mst"
        refine k_col F ?_
        cases hc : colV (.str s)
        · repeat walk_at "mst"
          exact bad (Or.inr (Or.inr hc)) _ e0
        · repeat walk_at "mst"
          exact good p1 p2 hc _ e0
      · repeat walk_at "mst"
        refine bad (Or.inr (Or.inr ?_)) _ e0
        cases t3 <;> first | rfl | exact absurd rfl z
  rcases h with ⟨c, ⟨a, rfl, ha⟩, ⟨a1, a2, a3⟩, q⟩ | ⟨br, q⟩
  · refine three a _ _ _ rfl ha ⟨_, .int _⟩ ⟨_, .int _⟩ ⟨_, .str _⟩ (fun h => ?_) (fun _ _ _ => q)
    rw [wh_in (by omega) (by omega), wh_in (by omega) (by omega), col_ok a3] at h
    rcases h with h | h | h <;> cases h
  · rcases br with ⟨T, t, n⟩ | ⟨a, xs, rfl, ha, l1, l3⟩ | ⟨a, y1, y2, y3, rfl, ha, t1, t2, t3, b⟩
    · unfold t_check_edge
      repeat walk_at "mst"
      refine ⟨_, T, rfl, t, ?_⟩
      repeat walk_at "mst"
      refine k_NT ?_
      rw [decide_eq_false n]
      repeat walk_at "mst"
      exact q _ (Evl.Ex.refl _)
    · unfold t_check_edge
      repeat walk_at "mst"
      refine ⟨_, "tuple", rfl, .tup (k_st ha), ?_⟩
      repeat walk_at "mst"
      refine k_NT ?_
      rw [decide_eq_true rfl]
      repeat walk_at "mst"
      refine k_iteD (fun z => ?_) (fun z => ?_)
      · repeat walk_at "mst"
        exact q _ (Evl.Ex.refl _)
      · exact absurd (by omega) z
    · refine three a _ _ _ rfl ha t1 t2 t3 (fun _ => q) (fun h1 h2 h3 => ?_)
      rw [h1, h2, h3] at b
      rcases b with b | b | b <;> cases b
theorem use_echeck {K : PySem.W.Frag} {H : Hp} {Q : VK} {E : XK} {y : V} (h : (∃ c, EdAt H y c ∧ OkE c ∧ ∀ H', Ex H H' → Q .non H') ∨ (BadE K H y ∧ ∀ H', Ex H H' → E (.ref (He.ga K "BadValue")) none H')) : sp_check_edge K ([y] ++ []) H Q E := ⟨y, rfl, h⟩
def sp_reached (K : PySem.W.Frag) : Sp := fun vs H Q _ => ∃ (ea ka : Addr) (xs : List V) (es : List Edge) (st : List Nat), vs = [.ref ea, .ref ka] ∧ SqL K H ea xs ∧ EsAt H xs es ∧ (∀ e ∈ es, OkE e) ∧ H ka = some (.lst (st.map fun k : Nat => V.int (k : Int))) ∧ st.length ≤ 2 ∧ ∀ D kvs H', H D = none → Ex H H' → H' D = some (.dK kvs) → (∀ k : Nat, dkey kvs (k : Int) = true ↔ From es st k) → Q (.ref D) H'
/-- a dict of True -/
def stD : List Nat → List (Key × V) → List (Key × V)
  | [], kv => kv
  | k :: st, kv => stD st (putK kv (Sum.inl (k : Int)) (.bl true))
theorem stD_snoc : ∀ (st : List Nat) (k : Nat) (kv : List (Key × V)), stD (st ++ [k]) kv = putK (stD st kv) (Sum.inl (k : Int)) (.bl true)
  | [], _, _ => rfl
  | a :: st, k, kv => stD_snoc st k _
theorem stD_key : ∀ (st : List Nat) (kv : List (Key × V)) (j : Int), dkey (stD st kv) j = true ↔ dkey kv j = true ∨ ∃ k ∈ st, j = (k : Int)
  | [], kv, j => by simp [stD]
  | a :: st, kv, j => by
    show dkey (stD st (putK kv (Sum.inl (a : Int)) (.bl true))) j = true ↔ _
    rw [stD_key st _ j, dkey_put, Bool.or_eq_true, decide_eq_true_iff]
    constructor
    · rintro ((h | h) | ⟨k, m, h⟩)
      · exact Or.inr ⟨a, List.mem_cons_self, h⟩
      · exact Or.inl h
      · exact Or.inr ⟨k, List.mem_cons_of_mem _ m, h⟩
    · rintro (h | ⟨k, m, h⟩)
      · exact Or.inl (Or.inr h)
      · rcases List.mem_cons.mp m with rfl | m
        · exact Or.inl (Or.inl h)
        · exact Or.inr ⟨k, m, h⟩
theorem put_le (kv : List (Key × V)) (k : Key) (v : V) : (putK kv k v).length ≤ kv.length + 1 := by
  induction kv with
  | nil => exact Nat.le_refl _
  | cons e kv ih =>
    unfold putK
    split <;> simp_all
theorem stD_len : ∀ (st : List Nat) (kv : List (Key × V)), (stD st kv).length ≤ kv.length + st.length
  | [], _ => Nat.le_refl _
  | a :: st, kv => by
    have h := stD_len st (putK kv (Sum.inl (a : Int)) (.bl true))
    have := put_le kv (Sum.inl (a : Int)) (.bl true)
    show (stD st _).length ≤ _
    rw [List.length_cons]
    omega
abbrev N_reached : List Str := ["edges", "knots", "found", "knot", "grown", "one", "other", "_"]
def t_reached (K : PySem.W.Frag) (E : XK) : TS := (tSeq (tAsg (tDc (iList K (tVar 1)) (gName 3) tYes (tVar 3) (tC (.bl true)) [3]) (gName 2)) (tSeq (tAsg (tC (.bl true)) (gName 4)) (tSeq (tWhile (tB (tVar 4)) (tSeq (tAsg (tC (.bl false)) (gName 4)) (tFor (iList K (tVar 0)) (gTup K 3 (gCons (gName 5) (gCons (gName 6) (gCons (gName 7) gNil)))) (tIfS (tTest (tOp rNe (tDIn (tVar 5) (tVar 2)) (tDIn (tVar 6) (tVar 2)))) (tSeq (tAsg2 (tC (.bl true)) (gSub (tVar 2) (tVar 5) rSetD) (gSub (tVar 2) (tVar 6) rSetD)) (tAsg (tC (.bl true)) (gName 4))) tNext)))) (tRet (tVar 2)))))
theorem len_reached {K : PySem.W.Frag} {vs : List V} {H : Hp} {Q : VK} {E : XK} (h : sp_reached K vs H Q E) : vs.length = 2 := by
  obtain ⟨_, _, _, _, _, rfl, _⟩ := h; rfl
theorem pure_reached {K : PySem.W.Frag} (vs : List V) (H : Hp) (Q : VK) (E : XK) (h : sp_reached K vs H Q E) : t_reached K E { nx := fun _ H' => Q .non H', rt := Q } (start N_reached vs) H := by
  obtain ⟨ea, ka, xs, es, st, rfl, hS, R, ok, hk, st2, q⟩ := h
  unfold t_reached
  unfold tDc
  repeat walk_at "mst"
  refine ⟨ka, rfl, ⟨_, k_sq hk⟩, ?_⟩
  intro D hD
  refine ⟨fun i m H' => i ≤ st.length ∧ m = st.length - i ∧ Ex H H' ∧ H' D = some (.dK (stD (st.take i) [])), ⟨st.length, Nat.zero_le _, rfl, Evl.Ex.new hD, upd_same⟩, ?_⟩
  rintro i m H1 ⟨hi, rfl, e1, h1⟩
  rcases Nat.lt_or_ge i st.length with li | li
  · have hg := List.getElem?_eq_getElem (l := st) (i := i) li
    have tk : st.take (i + 1) = st.take i ++ [st[i]] := by rw [List.take_succ, hg]; rfl
    generalize st[i] = k0 at *
    refine Or.inr ⟨⟨_, _, k_sq (e1 _ _ hk), by rw [List.getElem?_map, hg]; rfl⟩, fun H' => Ex H H' ∧ H' D = some (.dK (stD (st.take (i + 1)) [])), fun H' p => ⟨st.length - (i + 1), by omega, by omega, rfl, p.1, p.2⟩, ?_⟩
    rintro x H' y
    obtain ⟨eh, y⟩ := y
    subst eh
    have hx := y _ (k_sq (e1 _ _ hk))
    rw [List.getElem?_map, hg] at hx
    cases hx
    have few := stD_len (st.take i) []
    rw [List.length_take] at few
    have few : (stD (st.take i) []).length ≤ 0 + min i st.length := few
    repeat walk_at "mst"
    refine ⟨rfl, ?_⟩
    unfold tYes
    repeat walk_at "mst"
    exact ⟨_, Sum.inl (k0 : Int), rfl, h1, fits' (by omega), Evl.Ex.mut e1 hD, by rw [upd_same, tk, stD_snoc]⟩
  · have ei : i = st.length := by omega
    subst ei
    refine Or.inl ⟨⟨_, k_sq (e1 _ _ hk), by rw [List.length_map]; exact Nat.le_refl _⟩, ?_⟩
    rw [List.take_length] at h1
    have sk := stD_key st []
    have few := stD_len st []
    have few : (stD st []).length ≤ 0 + st.length := few
    have una := un_all 16 (dkey (stD st []))
    repeat walk_at "mst"
    refine k_while (fun m σ H' => ∃ (kvs : List (Key × V)) (g : Bool) (x5 x6 x7 : Option V), m = 2 * Un 16 (dkey kvs) + g.toNat ∧ Ex H H' ∧ H' D = some (.dK kvs) ∧ (∀ k ∈ st, dkey kvs (k : Int) = true) ∧ (∀ i, dkey kvs i = true → ∃ k : Nat, i = (k : Int) ∧ From es st k) ∧ kvs.length + Un 16 (dkey kvs) ≤ 20 ∧ (g = false → ∀ e ∈ es, dkey kvs (e.1 : Int) = dkey kvs (e.2.1 : Int)) ∧ σ = [some (.ref ea), some (.ref ka), some (.ref D), none, some (.bl g), x5, x6, x7]) _ ⟨_, true, none, none, none, rfl, e1, h1, fun k m => (sk _).mpr (Or.inr ⟨k, m, rfl⟩), fun j hj => ?_, by omega, fun h => (by cases h), rfl⟩ ?_
    · rcases (sk j).mp hj with h | ⟨k, m, h⟩
      · cases h
      · exact ⟨k, h, .base m⟩
    · rintro m σ H2 ⟨kvs, g, x5, x6, x7, rfl, e, hd, d0, hh, len, cl, rfl⟩
      repeat walk_at "mst"
      cases g
      · repeat walk_at "mst"
        refine q D kvs H2 hD e hd fun k => from_eq (S := fun k => dkey kvs (k : Int) = true) d0 (fun k h => ?_) (fun ed m => by rw [cl rfl ed m]) k
        obtain ⟨k', ek, hg⟩ := hh _ h
        have : k = k' := by omega
        rw [this]; exact hg
      · repeat walk_at "mst"
        refine ⟨fun σ' H' => ∃ (kvs' : List (Key × V)) (g : Bool) (x5 x6 x7 : Option V), 2 * Un 16 (dkey kvs') + g.toNat < 2 * Un 16 (dkey kvs) + 1 ∧ Ex H H' ∧ H' D = some (.dK kvs') ∧ (∀ k ∈ st, dkey kvs' (k : Int) = true) ∧ (∀ i, dkey kvs' i = true → ∃ k : Nat, i = (k : Int) ∧ From es st k) ∧ kvs'.length + Un 16 (dkey kvs') ≤ 20 ∧ (g = false → ∀ e ∈ es, dkey kvs' (e.1 : Int) = dkey kvs' (e.2.1 : Int)) ∧ σ' = [some (.ref ea), some (.ref ka), some (.ref D), none, some (.bl g), x5, x6, x7], ?_, ?_⟩
        · rintro σ' H' ⟨kvs', g, x5, x6, x7, lt, r⟩
          exact ⟨_, lt, kvs', g, x5, x6, x7, rfl, r⟩
        repeat walk_at "mst"
        have hS2 := Evl.ex_l e hS
        refine ⟨ea, rfl, ⟨_, hS2⟩, forK_list (xs := xs) (fun i σ H' => ∃ (kvs' : List (Key × V)) (g : Bool) (x5 x6 x7 : Option V), Ex H H' ∧ H' D = some (.dK kvs') ∧ (∀ k ∈ st, dkey kvs' (k : Int) = true) ∧ (∀ i, dkey kvs' i = true → ∃ k : Nat, i = (k : Int) ∧ From es st k) ∧ kvs'.length + Un 16 (dkey kvs') ≤ 20 ∧ (g = false → kvs' = kvs ∧ ∀ (j : Nat) (e : Edge), j < i → es[j]? = some e → dkey kvs' (e.1 : Int) = dkey kvs' (e.2.1 : Int)) ∧ (g = true → Un 16 (dkey kvs') + 1 ≤ Un 16 (dkey kvs)) ∧ Un 16 (dkey kvs') ≤ Un 16 (dkey kvs) ∧ σ = [some (.ref ea), some (.ref ka), some (.ref D), none, some (.bl g), x5, x6, x7]) ⟨kvs, false, _, _, _, e, hd, d0, hh, len, fun _ => ⟨rfl, fun j e h => absurd h (Nat.not_lt_zero _)⟩, fun h => (by cases h), Nat.le_refl _, rfl⟩ ?_ ?_ ?_⟩
        · rintro i σ H' _ ⟨kvs', g, x5, x6, x7, e, _⟩; exact Evl.ex_l e hS
        · rintro i x σ H3 hx ⟨kv, g, y5, y6, y7, e3, hd3, d03, hh3, len3, g0, g1, un, rfl⟩
          have hi := (List.getElem?_eq_some_iff.mp hx).1
          have he := List.getElem?_eq_getElem (l := es) (i := i) (by rw [← R.1]; exact hi)
          obtain ⟨x', hx', a, rfl, ha⟩ := R.2 i _ he
          rw [hx] at hx'
          cases hx'
          have me := List.mem_of_getElem? he
          have oke := ok _ me
          generalize es[i]'(by rw [← R.1]; exact hi) = ed at *
          obtain ⟨one, other, col⟩ := ed
          obtain ⟨o1, o2, _⟩ := oke
          have o1 : one ≤ 15 := o1
          have o2 : other ≤ 15 := o2
          refine k_gtup (k_st (e3 _ _ ha)) rfl ?_
          repeat walk_at "mst"
          refine ⟨D, _, rfl, DGet.k (k := Sum.inl (one : Int)) hd3, ?_⟩
          have k1 : (valV kv (Sum.inl (one : Int))).isSome = dkey kv (one : Int) := rfl
          rw [k1]
          repeat walk_at "mst"
          refine ⟨D, _, rfl, DGet.k (k := Sum.inl (other : Int)) hd3, ?_⟩
          have k2 : (valV kv (Sum.inl (other : Int))).isSome = dkey kv (other : Int) := rfl
          rw [k2]
          repeat walk_at "mst"
          refine ⟨rfl, ?_⟩
          have ev : ∀ b c : Bool, (!decide (V.bl b = V.bl c)) = (b != c) := by
            intro b c
            cases b <;> cases c <;> decide
          rw [ev]
          have dk2 : ∀ j, dkey (putK (putK kv (Sum.inl (one : Int)) (.bl true)) (Sum.inl (other : Int)) (.bl true)) j = (decide (j = (other : Int)) || (decide (j = (one : Int)) || dkey kv j)) := fun j => by rw [dkey_put, dkey_put]
          have l1 := put_len kv (k := (one : Int)) (.bl true) (n := 16) ⟨by omega, by omega⟩
          have l2 := put_len (putK kv (Sum.inl (one : Int)) (.bl true)) (k := (other : Int)) (.bl true) (n := 16) ⟨by omega, by omega⟩
          have up2 : ∀ j, dkey kv j = true → dkey (putK (putK kv (Sum.inl (one : Int)) (.bl true)) (Sum.inl (other : Int)) (.bl true)) j = true := fun j h => by rw [dk2, h]; simp
          have same : dkey kv (one : Int) = dkey kv (other : Int) → ∃ (kvs' : List (Key × V)) (g' : Bool) (x5 x6 x7 : Option V), Ex H H3 ∧ H3 D = some (.dK kvs') ∧ (∀ k ∈ st, dkey kvs' (k : Int) = true) ∧ (∀ i, dkey kvs' i = true → ∃ k : Nat, i = (k : Int) ∧ From es st k) ∧ kvs'.length + Un 16 (dkey kvs') ≤ 20 ∧ (g' = false → kvs' = kvs ∧ ∀ (j : Nat) (e : Edge), j < i + 1 → es[j]? = some e → dkey kvs' (e.1 : Int) = dkey kvs' (e.2.1 : Int)) ∧ (g' = true → Un 16 (dkey kvs') + 1 ≤ Un 16 (dkey kvs)) ∧ Un 16 (dkey kvs') ≤ Un 16 (dkey kvs) ∧ [some (V.ref ea), some (.ref ka), some (.ref D), none, some (.bl g), some (.int (one : Int)), some (.int (other : Int)), some (.str col)] = [some (.ref ea), some (.ref ka), some (.ref D), none, some (.bl g'), x5, x6, x7] := fun eq => by
            refine ⟨kv, g, _, _, _, e3, hd3, d03, hh3, len3, fun hg => ⟨(g0 hg).1, fun j e hj h => ?_⟩, g1, un, rfl⟩
            rcases Nat.lt_or_ge j i with l | l
            · exact (g0 hg).2 j e l h
            · have ej : j = i := by omega
              subst ej
              rw [he] at h
              cases h
              exact eq
          have grow : (dkey kv (one : Int) = false ∨ dkey kv (other : Int) = false) → From es st one → From es st other → Un 16 (dkey (putK (putK kv (Sum.inl (one : Int)) (.bl true)) (Sum.inl (other : Int)) (.bl true))) + 1 ≤ Un 16 (dkey kv) ∧ ∀ i, dkey (putK (putK kv (Sum.inl (one : Int)) (.bl true)) (Sum.inl (other : Int)) (.bl true)) i = true → ∃ k : Nat, i = (k : Int) ∧ From es st k := by
            intro new h1 h2
            refine ⟨?_, fun j hj => ?_⟩
            · rcases new with n | n
              · exact un_lt up2 (a := (one : Int)) ⟨by omega, by omega⟩ n (by rw [dk2]; simp)
              · exact un_lt up2 (a := (other : Int)) ⟨by omega, by omega⟩ n (by rw [dk2]; simp)
            · rw [dk2, Bool.or_eq_true, Bool.or_eq_true, decide_eq_true_iff, decide_eq_true_iff] at hj
              rcases hj with rfl | rfl | hj
              · exact ⟨other, rfl, h2⟩
              · exact ⟨one, rfl, h1⟩
              · exact hh3 j hj
          have lenp : (putK kv (Sum.inl (one : Int)) (.bl true)).length ≤ 20 := by omega
          cases b1 : dkey kv (one : Int) <;> cases b2 : dkey kv (other : Int)
          · repeat walk_at "mst"
            exact same (by rw [b1, b2])
          · obtain ⟨k', ek, hg⟩ := hh3 _ b2
            have ek : other = k' := by omega
            subst ek
            obtain ⟨un2, hh2⟩ := grow (Or.inl b1) (From.down me hg) hg
            repeat walk_at "mst"
            rw [if_pos (show (false != true) = true from rfl)]
            unfold tAsg2
            repeat walk_at "mst"
            refine ⟨D, _, rfl, DPut.k (k := Sum.inl (one : Int)) hd3 (fits' (by omega)), ?_⟩
            repeat walk_at "mst"
            refine ⟨D, _, rfl, DPut.k (k := Sum.inl (other : Int)) upd_same (fits' (by omega)), ?_⟩
            repeat walk_at "mst"
            exact ⟨_, true, _, _, _, Evl.Ex.mut (Evl.Ex.mut e3 hD) hD, upd_same, fun k m => up2 _ (d03 k m), hh2, by omega, fun h => (by cases h), fun _ => by omega, by omega, rfl⟩
          · obtain ⟨k', ek, hg⟩ := hh3 _ b1
            have ek : one = k' := by omega
            subst ek
            obtain ⟨un2, hh2⟩ := grow (Or.inr b2) hg (From.up me hg)
            repeat walk_at "mst"
            rw [if_pos (show (true != false) = true from rfl)]
            unfold tAsg2
            repeat walk_at "mst"
            refine ⟨D, _, rfl, DPut.k (k := Sum.inl (one : Int)) hd3 (fits' (by omega)), ?_⟩
            repeat walk_at "mst"
            refine ⟨D, _, rfl, DPut.k (k := Sum.inl (other : Int)) upd_same (fits' (by omega)), ?_⟩
            repeat walk_at "mst"
            exact ⟨_, true, _, _, _, Evl.Ex.mut (Evl.Ex.mut e3 hD) hD, upd_same, fun k m => up2 _ (d03 k m), hh2, by omega, fun h => (by cases h), fun _ => by omega, by omega, rfl⟩
          · repeat walk_at "mst"
            exact same (by rw [b1, b2])
        · rintro σ H3 ⟨kv, g, y5, y6, y7, e3, hd3, d03, hh3, len3, g0, g1, un, rfl⟩
          refine ⟨kv, g, _, _, _, ?_, e3, hd3, d03, hh3, len3, fun hg ed m => ?_, rfl⟩
          · cases g
            · show 2 * _ + 0 < _; omega
            · have := g1 rfl
              show 2 * _ + 1 < _; omega
          · obtain ⟨j, hj⟩ := List.getElem?_of_mem m
            exact (g0 hg).2 j ed (by rw [R.1]; exact (List.getElem?_eq_some_iff.mp hj).1) hj
theorem use_reachedF {K : PySem.W.Frag} {H : Hp} {Q : VK} {E : XK} {ea ka : Addr} {xs : List V} {es : List Edge} {st : List Nat} (hS : SqL K H ea xs) (R : EsAt H xs es) (ok : ∀ e ∈ es, OkE e) (hk : H ka = some (.lst (st.map fun k : Nat => V.int (k : Int)))) (l2 : st.length ≤ 2) (q : ∀ D kvs H', H D = none → Ex H H' → H' D = some (.dK kvs) → (∀ k : Nat, dkey kvs (k : Int) = true ↔ From es st k) → Q (.ref D) H') : sp_reached K ([.ref ea, .ref ka] ++ []) H Q E := ⟨ea, ka, xs, es, st, rfl, hS, R, ok, hk, l2, q⟩
theorem use_reached {K : PySem.W.Frag} {H : Hp} {Q : VK} {E : XK} {ea ka : Addr} {xs : List V} {es : List Edge} (hS : SqL K H ea xs) (R : EsAt H xs es) (ok : ∀ e ∈ es, OkE e) (hk : H ka = some (.lst [.int 0])) (q : ∀ D kvs H', H D = none → Ex H H' → H' D = some (.dK kvs) → (∀ k : Nat, dkey kvs (k : Int) = true ↔ Hangs es k) → Q (.ref D) H') : sp_reached K ([.ref ea, .ref ka] ++ []) H Q E :=
  ⟨ea, ka, xs, es, [0], rfl, hS, R, ok, hk, by decide, fun D kvs H' nD e hD key => q D kvs H' nD e hD fun k => (key k).trans (from_hangs es k)⟩
def sp_Hedge_d_init (K : PySem.W.Frag) : Sp := fun vs H Q E => ∃ (p dx : Addr) (x : V), vs = [.ref p, x] ∧ H p = some (.ins (He.ga K "Hedge") dx []) ∧ (
  (∃ a xs es, x = .ref a ∧ SqL K H a xs ∧ EsAt H xs es ∧ (∀ e ∈ es, OkE e) ∧ es.length ≤ 16 ∧ ∀ t ys H', H t = none → (∀ c o, H c = some o → c ≠ p → H' c = some o) → H' t = some (.tup ys) → EsAt H' ys (keptE es) → H' p = some (.ins (He.ga K "Hedge") dx (ghe t)) → Q .non H')
  ∨ (∃ T, TyB K H x T ∧ T ≠ "list" ∧ E (.ref (He.ga K "BadValue")) none H)
  ∨ (∃ a xs, x = .ref a ∧ SqL K H a xs ∧ 16 < xs.length ∧ xs.length ≤ 2000 ∧ E (.ref (He.ga K "BadValue")) none H)
  ∨ (∃ a xs i y, x = .ref a ∧ SqL K H a xs ∧ xs.length ≤ 16 ∧ xs[i]? = some y ∧ BadE K H y ∧ (∀ (j : Nat) (y : V), j < i → xs[j]? = some y → ∃ c, EdAt H y c ∧ OkE c) ∧ ∀ H', Ex H H' → E (.ref (He.ga K "BadValue")) none H'))
theorem EdAt.same {H : Hp} {v : V} {c d : Edge} (h1 : EdAt H v c) (h2 : EdAt H v d) : c = d := by
  obtain ⟨a, rfl, h1⟩ := h1
  obtain ⟨b, eb, h2⟩ := h2
  injection eb with eb
  subst eb
  rw [h1] at h2
  injection h2 with h2
  injection h2 with h2
  obtain ⟨c1, c2, c3⟩ := c
  obtain ⟨d1, d2, d3⟩ := d
  simp only [List.cons.injEq, V.int.injEq, V.str.injEq, and_true] at h2
  obtain ⟨q1, q2, q3⟩ := h2
  have q1 : c1 = d1 := by omega
  have q2 : c2 = d2 := by omega
  subst q1 q2 q3
  rfl
open Classical in
noncomputable def keepF (H : Hp) (f : Nat → Bool) (v : V) : Option V := if ∃ e, EdAt H v e ∧ f e.1 = true then some v else none
theorem keepF_at {H : Hp} {f : Nat → Bool} {v : V} {e : Edge} (h : EdAt H v e) : keepF H f v = if f e.1 = true then some v else none := by
  unfold keepF
  by_cases z : f e.1 = true
  · rw [if_pos z, if_pos ⟨e, h, z⟩]
  · rw [if_neg z, if_neg]
    rintro ⟨e', h', z'⟩
    rw [EdAt.same h h'] at z
    exact z z'
theorem keep_es {H : Hp} {f : Nat → Bool} : ∀ {xs : List V} {es : List Edge}, EsAt H xs es → EsAt H (xs.filterMap (keepF H f)) (es.filter fun e => f e.1)
  | [], [], _ => .nil
  | x :: xs, e :: es, h => by
    obtain ⟨h1, h2⟩ := h.tail
    have ih := keep_es (f := f) h2
    rw [List.filterMap_cons, keepF_at h1, List.filter_cons]
    by_cases z : f e.1 = true
    · rw [if_pos z, if_pos z]
      exact AllAt.app (xs := [x]) (cs := [e]) (.one h1) ih
    · rw [if_neg z, if_neg z]
      exact ih
  | [], _ :: _, h => absurd h.1 (by simp)
  | _ :: _, [], h => absurd h.1 (by simp)
local macro_rules | `(tactic| walk_at "new") => `(tactic| ((first | refine ⟨fits (Nat.le_of_ble_eq_true rfl), ?_⟩ | skip); intro p np; generalize hq : upd _ p _ = H1; have e1 := nx np hq; have s1 := nS hq; clear hq))
abbrev N_Hedge_d_init : List Str := ["self", "edges", "edge", "held"]
def t_Hedge_d_init (K : PySem.W.Frag) (E : XK) : TS := (tSeq (tIfS (tOr (tTest (tOp rNT (tCB (rTyp K) (tCons (tVar 1) tNil)) (tC (.ty "list")))) (tTest (tOp rGtI (tCB (rLenQ K) (tCons (tVar 1) tNil)) (tC (.int 16))))) (tRaise E (.ref (He.ga K "BadValue"))) tNext) (tSeq (tFor (iList K (tVar 1)) (gName 2) (tDrop (tCall (sp_check_edge K) [] E (tCons (tVar 2) tNil)))) (tSeq (tAsg (tCall (sp_reached K) [] E0 (tCons (tVar 1) (tCons (tLst (tCons (tC (.int 0)) tNil)) tNil))) (gName 3)) (sFld K (tVar 0) (tCB (rTupL K) (tCons (tLc (iList K (tVar 1)) (gName 2) (tB (tDIn (tOp (rIxT K) (tVar 2) (tC (.int 0))) (tVar 3))) (tVar 2) [2]) tNil)) "_edges"))))
theorem len_Hedge_d_init {K : PySem.W.Frag} {vs : List V} {H : Hp} {Q : VK} {E : XK} (h : sp_Hedge_d_init K vs H Q E) : vs.length = 2 := by
  obtain ⟨_, _, _, rfl, _⟩ := h; rfl
theorem pure_Hedge_d_init {K : PySem.W.Frag} (F : FHedge K) (vs : List V) (H : Hp) (Q : VK) (E : XK) (h : sp_Hedge_d_init K vs H Q E) : t_Hedge_d_init K E { nx := fun _ H' => Q .non H', rt := Q } (start N_Hedge_d_init vs) H := by
  obtain ⟨p, dx, x, rfl, hp, h⟩ := h
  have walk : ∀ (a : Addr) (xs : List V) (i0 : Nat), x = .ref a → SqL K H a xs → i0 ≤ xs.length → xs.length ≤ 16 →
      (∀ (j : Nat) (y : V), j < i0 → xs[j]? = some y → ∃ c, EdAt H y c ∧ OkE c) →
      (i0 < xs.length → ∃ y, xs[i0]? = some y ∧ BadE K H y ∧ ∀ H', Ex H H' → E (.ref (He.ga K "BadValue")) none H') →
      (i0 = xs.length → ∃ es, EsAt H xs es ∧ (∀ e ∈ es, OkE e) ∧ ∀ t ys H', H t = none → (∀ c o, H c = some o → c ≠ p → H' c = some o) → H' t = some (.tup ys) → EsAt H' ys (keptE es) → H' p = some (.ins (He.ga K "Hedge") dx (ghe t)) → Q .non H') →
      t_Hedge_d_init K E { nx := fun _ H' => Q .non H', rt := Q } (start N_Hedge_d_init [.ref p, x]) H := by
    rintro a xs i0 rfl hS il l16 good bad fin
    unfold t_Hedge_d_init
    repeat walk_at "mst"
    refine ⟨_, "list", rfl, .lst hS, ?_⟩
    repeat walk_at "mst"
    refine k_NT ?_
    rw [decide_eq_true rfl]
    repeat walk_at "mst"
    refine k_iteD (fun z => absurd z (by omega)) (fun _ => ?_)
    repeat walk_at "mst"
    refine ⟨a, rfl, ⟨_, hS⟩, forK_list (xs := xs) (fun i σ H' => Ex H H' ∧ i ≤ i0 ∧ ∃ x2 : Option V, σ = [some (.ref p), some (.ref a), x2, none]) ⟨Evl.Ex.refl _, Nat.zero_le _, _, rfl⟩ ?_ ?_ ?_⟩
    · rintro i σ H' _ ⟨e, _⟩; exact Evl.ex_l e hS
    · rintro i y σ H' hy ⟨e, ij, x2, rfl⟩
      have hi := (List.getElem?_eq_some_iff.mp hy).1
      repeat walk_at "mst"
      rcases Nat.lt_or_ge i i0 with l | l
      · obtain ⟨c, hc, ok⟩ := good i y l hy
        refine use_echeck (Or.inl ⟨c, hc.ex e, ok, fun H2 e2 => ?_⟩)
        repeat walk_at "mst"
        exact ⟨e.trans e2, l, _, rfl⟩
      · have ei : i = i0 := by omega
        subst ei
        obtain ⟨y', hy', br, r⟩ := bad hi
        rw [hy] at hy'
        cases hy'
        exact use_echeck (Or.inr ⟨br.ex e, fun H2 e2 => r _ (e.trans e2)⟩)
    · rintro σ H' ⟨e, ij, x2, rfl⟩
      obtain ⟨es, R, okk, gp⟩ := fin (by omega)
      have hS0 := Evl.ex_l e hS
      repeat walk_at "mst"
      walk_at "new"; rename_i ka nka H1 e1 s1
      repeat walk_at "mst"
      refine use_reached (Evl.ex_l e1 hS0) (R.imp fun y c q => q.ex (e.trans e1)) okk s1 fun D kvs H2 nD e2 hD key => ?_
      have e02 := (e.trans e1).trans e2
      have hS2 := Evl.ex_l e02 hS
      repeat walk_at "mst"
      refine ⟨a, rfl, ⟨_, hS2⟩, lcR_list (keepF H fun k => dkey kvs (k : Int)) hS2 (fits' (by omega)) (fun x mx => ?_) fun L H3 nL e3 hL => ?_⟩
      · intro H'' e'' RR rr
        obtain ⟨i, hx⟩ := List.getElem?_of_mem mx
        have hi := (List.getElem?_eq_some_iff.mp hx).1
        have hc := List.getElem?_eq_getElem (l := es) (i := i) (by rw [← R.1]; exact hi)
        obtain ⟨x', hx', at_⟩ := R.2 i _ hc
        rw [hx] at hx'
        cases hx'
        have kf := keepF_at (f := fun k => dkey kvs (k : Int)) at_
        obtain ⟨u, rfl, hu⟩ := at_
        generalize es[i]'(by rw [← R.1]; exact hi) = ed at *
        obtain ⟨one, other, col⟩ := ed
        have hu' := e'' _ _ (e02 _ _ hu)
        repeat walk_at "mst"
        refine ⟨rfl, ?_⟩
        repeat walk_at "mst"
        refine ⟨D, _, rfl, DGet.k (k := Sum.inl (one : Int)) (e'' _ _ hD), ?_⟩
        have k1 : (valV kvs (Sum.inl (one : Int))).isSome = dkey kvs (one : Int) := rfl
        rw [k1]
        have kf : keepF H (fun k => dkey kvs (k : Int)) (.ref u) = if dkey kvs (one : Int) = true then some (.ref u) else none := kf
        rw [kf] at rr
        cases hb : dkey kvs (one : Int)
        · rw [hb] at rr
          repeat walk_at "mst"
          exact rr _ (Evl.Ex.refl _)
        · rw [hb] at rr
          repeat walk_at "mst"
          exact rr _ (Evl.Ex.refl _)
      · have hp3 := e3 _ _ (e02 _ _ hp)
        have e03 := e02.trans e3
        have kept := keep_es (f := fun k => dkey kvs (k : Int)) R
        rw [kept_by (f := fun k => dkey kvs (k : Int)) key] at kept
        repeat walk_at "mst"
        refine fun t ht => ?_
        have npt : p ≠ t := ne_of_none hp3 ht
        repeat walk_at "mst"
        refine ⟨p, _, dx, [], rfl, (upd_ne npt).trans hp3, F.cl, F.na, by show 0 < 1000; decide, ?_⟩
        refine gp t _ _ (Evl.fresh_back e03 ht) (fun c o z y => ?_) ?_ (kept.imp fun y c q => ?_) upd_same
        · rw [upd_ne y, upd_ne (ne_of_none (e03 _ _ z) ht)]; exact e03 _ _ z
        · rw [upd_ne npt.symm, upd_same]
        · obtain ⟨u, r, hu⟩ := q
          have nup : u ≠ p := fun h => by rw [h, hp] at hu; cases hu
          exact ⟨u, r, by rw [upd_ne nup, upd_ne (ne_of_none (e03 _ _ hu) ht)]; exact e03 _ _ hu⟩
  rcases h with ⟨a, xs, es, rfl, hS, R, ok, l16, q⟩ | ⟨T, t, n, r⟩ | ⟨a, xs, rfl, hS, l1, l2, r⟩ | ⟨a, xs, i, y, rfl, hS, l16, hy, br, good, r⟩
  · have l := R.1
    refine walk a xs xs.length rfl hS (Nat.le_refl _) (by omega) (fun j y hj hy => ?_) (fun h => absurd h (Nat.lt_irrefl _)) (fun _ => ⟨es, R, ok, q⟩)
    have hc := List.getElem?_eq_getElem (l := es) (i := j) (by omega)
    obtain ⟨y', h1, h2⟩ := R.2 j _ hc
    rw [hy] at h1
    cases h1
    exact ⟨_, h2, ok _ (List.mem_of_getElem? hc)⟩
  · unfold t_Hedge_d_init
    repeat walk_at "mst"
    refine ⟨_, T, rfl, t, ?_⟩
    repeat walk_at "mst"
    refine k_NT ?_
    rw [decide_eq_false n]
    repeat walk_at "mst"
    exact r
  · unfold t_Hedge_d_init
    repeat walk_at "mst"
    refine ⟨_, "list", rfl, .lst hS, ?_⟩
    repeat walk_at "mst"
    refine k_NT ?_
    rw [decide_eq_true rfl]
    repeat walk_at "mst"
    refine k_iteD (fun _ => ?_) (fun z => absurd (by omega) z)
    repeat walk_at "mst"
    exact r
  · have hi := (List.getElem?_eq_some_iff.mp hy).1
    exact walk a xs i rfl hS (by omega) l16 good (fun _ => ⟨y, hy, br, r⟩) (fun h => by omega)
/-- a hedge is made -/
theorem mk_he {K : PySem.W.Frag} {H : Hp} {Q : Addr → Hp → Prop} {E : XK} {a : Addr} {xs : List V} {es : List Edge} (hS : SqL K H a xs) (R : EsAt H xs es) (ok : ∀ e ∈ es, OkE e) (l16 : es.length ≤ 16) (k : ∀ x H', H x = none → Ex H H' → HgAt K H' x (keptE es) → Q x H') :
    ∀ x dx, H x = none → H dx = none → dx ≠ x → sp_Hedge_d_init K (.ref x :: ([.ref a] ++ [])) (upd (upd H dx (.own x)) x (.ins (He.ga K "Hedge") dx [])) (fun v H2 => v = .non ∧ Q x H2) E := by
  intro x dx hx hd hne
  have e : Ex H (upd (upd H dx (.own x)) x (.ins (He.ga K "Hedge") dx [])) := (Evl.Ex.new hd).trans (Evl.Ex.new (by rw [upd_ne hne.symm]; exact hx))
  exact ⟨x, dx, _, rfl, upd_same, Or.inl ⟨a, xs, es, rfl, Evl.ex_l e hS, R.imp fun y c q => q.ex e, ok, l16, fun t ys H' ht kp h1 h2 h3 => ⟨rfl, k x H' hx (fun c o z => kp c o (e _ _ z) (ne_of_none z hx)) ⟨dx, t, ys, h3, h1, h2⟩⟩⟩⟩
local macro_rules | `(tactic| walk_at "new") => `(tactic| ((first | refine ⟨fits (Nat.le_of_ble_eq_true rfl), ?_⟩ | skip); intro p np; generalize hq : upd _ p _ = H1; have e1 := nx np hq; have s1 := nS hq; clear hq))
def sp_law_hedge (K : PySem.W.Frag) : Sp := sp_bd K
abbrev N_law_hedge : List Str := ["tape", "edges", "k", "colour"]
def t_law_hedge (K : PySem.W.Frag) (E : XK) : TS := (tSeq (tAsg (tLst tNil) (gName 1)) (tSeq (tFor (iRng1 (tCons (tCall (sp_law_draw K) [] E0 (tCons (tVar 0) (tCons (tC (.int 5)) tNil))) tNil)) (gName 2) (tSeq (tAsg (tOp (rIxL K) (tLst (tCons (tC (.str "blue")) (tCons (tC (.str "red")) (tCons (tC (.str "green")) tNil)))) (tCall (sp_law_draw K) [] E0 (tCons (tVar 0) (tCons (tC (.int 3)) tNil)))) (gName 3)) (tDrop (tBM K "list" rAppend (tVar 1) (tCons (tTup (tCons (tCall (sp_law_draw K) [] E0 (tCons (tVar 0) (tCons (tC (.int 3)) tNil))) (tCons (tCall (sp_law_draw K) [] E0 (tCons (tVar 0) (tCons (tC (.int 4)) tNil))) (tCons (tVar 3) tNil)))) tNil))))) (tRet (tMake (He.ga K "Hedge") (sp_Hedge_d_init K) [] E0 (tCons (tVar 1) tNil)))))
theorem len_law_hedge {K : PySem.W.Frag} {vs : List V} {H : Hp} {Q : VK} {E : XK} (h : sp_law_hedge K vs H Q E) : vs.length = 1 := by
  obtain ⟨_, rfl, _⟩ := h; rfl
theorem pure_law_hedge {K : PySem.W.Frag} (vs : List V) (H : Hp) (Q : VK) (E : XK) (h : sp_law_hedge K vs H Q E) : t_law_hedge K E { nx := fun _ H' => Q .non H', rt := Q } (start N_law_hedge vs) H := by
  obtain ⟨t, rfl, ht, q⟩ := h
  unfold t_law_hedge
  repeat walk_at "mst"
  walk_at "new"; rename_i p np H1 e1 s1
  repeat walk_at "mst"
  refine use_draw (n := 5) (ht.ex e1) (by decide) (by decide) fun r H2 r0 r1 k2 ht2 => ?_
  have tp := ht.ne np
  have hp2 := k2 _ _ s1 tp.symm
  repeat walk_at "mst"
  refine ⟨_, rfl, by omega, by omega, ?_⟩
  refine forK_range (n := r.toNat) (fun k σ H' => Tk t H H' ∧ TapeAt H' t ∧ (∃ (xs : List V) (es : List Edge), H' p = some (.lst xs) ∧ EsAt H' xs es ∧ es.length = k ∧ ∀ e ∈ es, OkE e) ∧ ∃ x2 x3 : Option V, σ = [some (.ref t), some (.ref p), x2, x3]) ⟨(Tk.of e1).trans k2, ht2, ⟨[], [], hp2, AllAt.nil, rfl, fun c m => nomatch m⟩, _, _, rfl⟩ ?_ ?_
  · rintro k σ H3 hk ⟨k3, ht3, ⟨xs, es, hp, hc, lc, bc⟩, x2, x3, rfl⟩
    repeat walk_at "mst"
    walk_at "new"; rename_i l nl H4 e4 s4
    repeat walk_at "mst"
    refine use_draw (n := 3) (ht3.ex e4) (by decide) (by decide) fun v1 H5 v10 v11 k5 ht5 => ?_
    have tl := ht3.ne nl
    obtain ⟨col, hcol, ok3⟩ : ∃ col : Str, atI [V.str "blue", V.str "red", V.str "green"] v1 = some (.str col) ∧ OkC3 col := by
      have v4 : v1 = 0 ∨ v1 = 1 ∨ v1 = 2 := by omega
      rcases v4 with rfl | rfl | rfl
      · exact ⟨_, rfl, Or.inl rfl⟩
      · exact ⟨_, rfl, Or.inr (Or.inr rfl)⟩
      · exact ⟨_, rfl, Or.inr (Or.inl rfl)⟩
    repeat walk_at "mst"
    refine k_ixL (k_sq (k5 _ _ s4 tl.symm)) hcol ?_
    have hp5 := k5 _ _ (e4 _ _ hp) tp.symm
    repeat walk_at "mst"
    refine use_draw (n := 3) ht5 (by decide) (by decide) fun a H6 a0 a1 k6 ht6 => ?_
    repeat walk_at "mst"
    refine use_draw (n := 4) ht6 (by decide) (by decide) fun b H7 b0 b1 k7 ht7 => ?_
    obtain ⟨a, rfl⟩ : ∃ a' : Nat, a = a' := ⟨a.toNat, by omega⟩
    obtain ⟨b, rfl⟩ : ∃ b' : Nat, b = b' := ⟨b.toNat, by omega⟩
    repeat walk_at "mst"
    refine ⟨by show 3 ≤ sizeLine; decide, fun u nu => ?_⟩
    have e8 := Evl.Ex.new (o := HO.tup [V.int (a : Int), V.int (b : Int), V.str col]) nu
    have hu : upd H7 u (HO.tup [V.int (a : Int), V.int (b : Int), V.str col]) u = some (HO.tup [V.int (a : Int), V.int (b : Int), V.str col]) := upd_same
    generalize upd H7 u (HO.tup [V.int (a : Int), V.int (b : Int), V.str col]) = H8 at *
    have k38 : Tk t H3 H8 := (((Tk.of e4).trans k5).trans (k6.trans k7)).trans (Tk.of e8)
    have hp8 := k38 _ _ hp tp.symm
    repeat walk_at "mst"
    · rw [hc.1]; exact Nat.lt_of_le_of_lt (show _ ≤ 100 by omega) (by decide)
    have k9 : ∀ c o, H8 c = some o → c ≠ p → upd H8 p (HO.lst (xs ++ [V.ref u])) c = some o := fun c o z n => (upd_ne n).trans z
    have hp9 : upd H8 p (HO.lst (xs ++ [V.ref u])) p = some (HO.lst (xs ++ [V.ref u])) := upd_same
    have nup : u ≠ p := ne_of hu hp8 (by intro y; cases y)
    have hu9 := k9 _ _ hu nup
    have kl : Kl H3 (upd H8 p (HO.lst (xs ++ [V.ref u]))) := fun c o z n => k9 _ _ (k38 _ _ z fun h => by
      obtain ⟨_, _, _, w⟩ := ht3
      rw [h, w] at z
      exact n _ (Option.some.inj z).symm) fun h => by
      rw [h, hp] at z
      exact n _ (Option.some.inj z).symm
    generalize upd H8 p (HO.lst (xs ++ [V.ref u])) = H9 at *
    refine ⟨fun c o z n => k9 _ _ (k38 _ _ (k3 _ _ z n) n) (ne_of_none z np), (ht7.ex e8).kp tp k9, ⟨xs ++ [.ref u], es ++ [(a, b, col)], hp9, AllAt.app (hc.imp fun y c q => q.keep kl) (AllAt.one ⟨u, rfl, hu9⟩), by rw [List.length_append, lc]; rfl, fun c m => ?_⟩, _, _, rfl⟩
    rcases List.mem_append.mp m with m | m
    · exact bc c m
    · rw [List.mem_singleton] at m; rw [m]
      exact ⟨by show a ≤ 15; omega, by show b ≤ 15; omega, ok3⟩
  · rintro σ H3 ⟨k3, ht3, ⟨xs, es, hp, hc, lc, bc⟩, x2, x3, rfl⟩
    repeat walk_at "mst"
    refine mk_he (k_sq hp) hc bc (by omega) fun x H4 nx e4 hx => ?_
    repeat walk_at "mst"
    have le : (keptE es).length ≤ es.length := List.length_filter_le _ _
    exact q _ H4 (_, _) (k3.trans (Tk.of e4)) (ht3.ex e4) ⟨x, rfl, .hedge hx (kept_okM bc) (by omega)⟩
def sp_Floor_d_init (K : PySem.W.Frag) : Sp := fun vs H Q E => ∃ (p dx : Addr) (x : V), vs = [.ref p, x] ∧ H p = some (.ins (He.ga K "Floor") dx []) ∧ (
  (∃ a rs w, x = .ref a ∧ SqL K H a (rowsV rs) ∧ OkF rs w ∧ ∀ t H', H t = none → (∀ c o, H c = some o → c ≠ p → H' c = some o) → H' t = some (.tup (rowsV rs)) → H' p = some (.ins (He.ga K "Floor") dx (gfl t)) → Q .non H')
  ∨ (∃ T, TyB K H x T ∧ T ≠ "list" ∧ E (.ref (He.ga K "BadValue")) none H)
  ∨ (∃ a xs, x = .ref a ∧ SqL K H a xs ∧ xs.length ≤ 100 ∧ (∀ v ∈ xs, Kn K H v) ∧ NoF xs ∧ ∀ H', Ex H H' → E (.ref (He.ga K "BadValue")) none H'))
abbrev N_Floor_d_init : List Str := ["self", "rows", "row", "cell"]
def t_Floor_d_init (K : PySem.W.Frag) (E : XK) : TS := (tSeq (tIfS (tOr (tTest (tOp rNT (tCB (rTyp K) (tCons (tVar 1) tNil)) (tC (.ty "list")))) (tNot (tTest (tChain rLeI rLeI (tC (.int 1)) (tCB (rLenQ K) (tCons (tVar 1) tNil)) (tC (.int 6)))))) (tRaise E (.ref (He.ga K "BadValue"))) tNext) (tSeq (tFor (iList K (tVar 1)) (gName 2) (tSeq (tIfS (tOr (tTest (tOp rNT (tCB (rTyp K) (tCons (tVar 2) tNil)) (tC (.ty "str")))) (tOr (tNot (tTest (tChain rLeI rLeI (tC (.int 1)) (tCB rLenS (tCons (tVar 2) tNil)) (tC (.int 6))))) (tTest (tOp rNe (tCB rLenS (tCons (tVar 2) tNil)) (tCB rLenS (tCons (tOp (rIxL K) (tVar 1) (tC (.int 0))) tNil)))))) (tRaise E (.ref (He.ga K "BadValue"))) tNext) (tIfS (tNot (tB (tCB (rAll K) (tCons (tLc (iStr (tVar 2)) (gName 3) tYes (tOp (rIn K false) (tVar 3) (tTup (tCons (tC (.str ".")) (tCons (tC (.str "#")) tNil)))) [3]) tNil)))) (tRaise E (.ref (He.ga K "BadValue"))) tNext))) (sFld K (tVar 0) (tCB (rTupL K) (tCons (tVar 1) tNil)) "_rows")))
theorem len_Floor_d_init {K : PySem.W.Frag} {vs : List V} {H : Hp} {Q : VK} {E : XK} (h : sp_Floor_d_init K vs H Q E) : vs.length = 2 := by
  obtain ⟨_, _, _, rfl, _⟩ := h; rfl
theorem pure_Floor_d_init {K : PySem.W.Frag} (F : FFloor K) (vs : List V) (H : Hp) (Q : VK) (E : XK) (h : sp_Floor_d_init K vs H Q E) : t_Floor_d_init K E { nx := fun _ H' => Q .non H', rt := Q } (start N_Floor_d_init vs) H := by
  obtain ⟨p, dx, x, rfl, hp, h⟩ := h
  have walk : ∀ (a : Addr) (xs : List V), x = .ref a → SqL K H a xs → xs.length ≤ 100 → (∀ v ∈ xs, Kn K H v) → (NoF xs → ∀ H', Ex H H' → E (.ref (He.ga K "BadValue")) none H') →
      (∀ rs w, OkF rs w → xs = rowsV rs → ∀ t H', H t = none → (∀ c o, H c = some o → c ≠ p → H' c = some o) → H' t = some (.tup xs) → H' p = some (.ins (He.ga K "Floor") dx (gfl t)) → Q .non H') →
      t_Floor_d_init K E { nx := fun _ H' => Q .non H', rt := Q } (start N_Floor_d_init [.ref p, x]) H := by
    rintro a xs rfl hS l100 kn bad good
    unfold t_Floor_d_init
    repeat walk_at "mst"
    refine ⟨_, "list", rfl, .lst hS, ?_⟩
    repeat walk_at "mst"
    refine k_NT ?_
    rw [decide_eq_true rfl]
    repeat walk_at "mst"
    refine k_iteD (fun z1 => ?_) (fun z1 => ?_)
    rotate_left
    · repeat walk_at "mst"
      exact bad (fun rs w ok e => by have := (row_of ok e).1; omega) _ (Evl.Ex.refl _)
    repeat walk_at "mst"
    refine k_iteN (fun z6 => ?_) (fun z6 => ?_)
    · repeat walk_at "mst"
      exact bad (fun rs w ok e => by have := (row_of ok e).2.1; omega) _ (Evl.Ex.refl _)
    repeat walk_at "mst"
    refine ⟨a, rfl, ⟨_, hS⟩, forK_list (xs := xs) (fun i σ H' => Ex H H' ∧ (∀ (j : Nat) (v : V), j < i → xs[j]? = some v → Row0 (len0 xs) v) ∧ ∃ x2 : Option V, σ = [some (.ref p), some (.ref a), x2, none]) ⟨Evl.Ex.refl _, fun j v h => absurd h (Nat.not_lt_zero _), _, rfl⟩ ?_ ?_ ?_⟩
    · rintro i σ H' _ ⟨e, _⟩; exact Evl.ex_l e hS
    · rintro i v σ H' hv ⟨e, pre, x2, rfl⟩
      have hi := (List.getElem?_eq_some_iff.mp hv).1
      have mv := List.mem_of_getElem? hv
      have viol : ¬ Row0 (len0 xs) v → NoF xs := fun n rs w ok q => n ((row_of ok q).2.2 v mv)
      have hS2 := Evl.ex_l e hS
      repeat walk_at "mst"
      rcases (kn v mv).ex e with ⟨T, t, n⟩ | ⟨r, rfl, l1⟩
      · refine ⟨_, T, rfl, t, ?_⟩
        repeat walk_at "mst"
        refine k_NT ?_
        rw [decide_eq_false n]
        repeat walk_at "mst"
        refine bad (viol fun ⟨r, q, _⟩ => ?_) _ e
        subst q
        exact n (ty_str t)
      · refine ⟨_, "str", rfl, .str _, ?_⟩
        repeat walk_at "mst"
        refine k_NT ?_
        rw [decide_eq_true rfl]
        repeat walk_at "mst"
        refine k_lenX (by omega) ?_
        repeat walk_at "mst"
        refine k_iteD (fun y1 => ?_) (fun y1 => ?_)
        rotate_left
        · repeat walk_at "mst"
          refine bad (viol fun ⟨r', q, _, l, _⟩ => ?_) _ e
          injection q with q
          have := tx_inj.mp q
          subst this
          omega
        repeat walk_at "mst"
        refine k_iteN (fun y6 => ?_) (fun y6 => ?_)
        · repeat walk_at "mst"
          refine bad (viol fun ⟨r', q, _, _, l, _⟩ => ?_) _ e
          injection q with q
          have := tx_inj.mp q
          subst this
          omega
        repeat walk_at "mst"
        have h0 : ∃ r0, xs[0]? = some (.str (tx r0)) ∧ r0.length ≤ 6 ∧ len0 xs = r0.length := by
          have key : ∀ r0 : List Nat, xs[0]? = some (.str (tx r0)) → len0 xs = r0.length := by
            intro r0 q
            cases xs with
            | nil => cases q
            | cons y ys =>
              cases q
              exact tx_len _
          rcases Nat.eq_zero_or_pos i with z | z
          · subst z
            exact ⟨r, hv, by omega, key r hv⟩
          · obtain ⟨r0, q, _, _, l6, _⟩ := pre 0 xs[0] z (List.getElem?_eq_getElem _)
            have q2 : xs[0]? = some (.str (tx r0)) := by rw [← q]; exact List.getElem?_eq_getElem _
            exact ⟨r0, q2, l6, key r0 q2⟩
        obtain ⟨r0, q0, l0, e0⟩ := h0
        refine k_lenX (by omega) ?_
        repeat walk_at "mst"
        refine k_ixL hS2 (atI_nat (j := 0) q0) ?_
        repeat walk_at "mst"
        refine k_lenX (by omega) ?_
        repeat walk_at "mst"
        refine k_iteD (fun ne => ?_) (fun ne => ?_)
        · repeat walk_at "mst"
          refine bad (viol fun ⟨r', q, l, _⟩ => ?_) _ e
          injection q with q
          have := tx_inj.mp q
          subst this
          omega
        repeat walk_at "mst"
        refine k_istr ?_
        repeat walk_at "mst"
        refine ⟨_, rfl, lcR_str (fun c => some (V.bl (okd c))) (by omega) (fun i c hc => ?_) fun D H2 nD e2 hD => ?_⟩
        · refine turn_mapE fun H'' e R rr => ?_
          repeat walk_at "mst"
          refine ⟨fits (Nat.le_of_ble_eq_true rfl), fun u nu => ?_⟩
          exact k_inDots (k_st upd_same) (rr _ (Evl.Ex.new nu))
        · have em : r.filterMap (fun c => some (V.bl (okd c))) = (r.map okd).map V.bl := by
            rw [List.map_map]
            exact List.filterMap_eq_map (f := fun c => V.bl (okd c)) ▸ rfl
          rw [em] at hD
          repeat walk_at "mst"
          refine k_allX (k_sq hD) ?_
          have ea : (r.map okd).all id = r.all okd := by rw [List.all_map]; rfl
          rw [ea]
          cases hb : r.all okd
          · repeat walk_at "mst"
            refine bad (viol fun ⟨r', q, _, _, _, al⟩ => ?_) _ (e.trans e2)
            injection q with q
            have := tx_inj.mp q
            subst this
            rw [hb] at al
            cases al
          · repeat walk_at "mst"
            refine ⟨e.trans e2, fun j v hj hv2 => ?_, _, rfl⟩
            rcases Nat.lt_or_ge j i with l | l
            · exact pre j v l hv2
            · have ej : j = i := by omega
              subst ej
              rw [hv] at hv2
              cases hv2
              exact ⟨r, rfl, by omega, by omega, by omega, hb⟩
    · rintro σ H' ⟨e, pre, x2, rfl⟩
      obtain ⟨rs, w, ok, es⟩ := rows_of (xs := xs) (by omega) (by omega) fun v m => by
        obtain ⟨j, hj⟩ := List.getElem?_of_mem m
        exact pre j v (List.getElem?_eq_some_iff.mp hj).1 hj
      have hp2 := e _ _ hp
      have hS2 := Evl.ex_l e hS
      repeat walk_at "mst"
      intro t ht
      have npt : p ≠ t := ne_of_none hp2 ht
      repeat walk_at "mst"
      refine ⟨p, _, dx, [], rfl, (upd_ne npt).trans hp2, F.cl, F.na, by show 0 < 1000; decide, ?_⟩
      refine good rs w ok es t _ (Evl.fresh_back e ht) (fun c o z y => ?_) ?_ upd_same
      · rw [upd_ne y, upd_ne (ne_of_none (e _ _ z) ht)]; exact e _ _ z
      · rw [upd_ne npt.symm, upd_same]
  rcases h with ⟨a, rs, w, rfl, hS, ok, q⟩ | ⟨T, t, n, r⟩ | ⟨a, xs, rfl, hS, l, kn, no, r⟩
  · refine walk a _ rfl hS (by rw [rowsV_len]; have := ok.n6; omega) (fun v m => ?_) (fun h => absurd rfl (h rs w ok)) (fun _ _ _ _ => q)
    obtain ⟨r, mr, rfl⟩ := List.mem_map.mp m
    have o := (ok.ok r mr).1
    have := ok.w6
    exact Or.inr ⟨r, rfl, by omega⟩
  · unfold t_Floor_d_init
    repeat walk_at "mst"
    refine ⟨_, T, rfl, t, ?_⟩
    repeat walk_at "mst"
    refine k_NT ?_
    rw [decide_eq_false n]
    repeat walk_at "mst"
    exact r
  · exact walk a xs rfl hS l kn (fun _ => r) (fun rs w ok e => absurd e (no rs w ok))
/-- a floor is made -/
theorem mk_fl {K : PySem.W.Frag} {H : Hp} {Q : Addr → Hp → Prop} {E : XK} {a : Addr} {rs : Fl} {w : Nat} (hS : SqL K H a (rowsV rs)) (ok : OkF rs w) (k : ∀ x H', H x = none → Ex H H' → FlAt K H' x rs → Q x H') :
    ∀ x dx, H x = none → H dx = none → dx ≠ x → sp_Floor_d_init K (.ref x :: ([.ref a] ++ [])) (upd (upd H dx (.own x)) x (.ins (He.ga K "Floor") dx [])) (fun v H2 => v = .non ∧ Q x H2) E := by
  intro x dx hx hd hne
  have e : Ex H (upd (upd H dx (.own x)) x (.ins (He.ga K "Floor") dx [])) := (Evl.Ex.new hd).trans (Evl.Ex.new (by rw [upd_ne hne.symm]; exact hx))
  exact ⟨x, dx, _, rfl, upd_same, Or.inl ⟨a, rs, w, rfl, Evl.ex_l e hS, ok, fun t H' ht kp h1 h2 => ⟨rfl, k x H' hx (fun c o z => kp c o (e _ _ z) (ne_of_none z hx)) ⟨dx, t, h2, h1⟩⟩⟩⟩
local macro_rules | `(tactic| walk_at "new") => `(tactic| ((first | refine ⟨fits (Nat.le_of_ble_eq_true rfl), ?_⟩ | skip); intro p np; generalize hq : upd _ p _ = H1; have e1 := nx np hq; have s1 := nS hq; clear hq))
def sp_law_floor (K : PySem.W.Frag) : Sp := sp_bd K
abbrev N_law_floor : List Str := ["tape", "wide", "rows", "k", "j"]
def t_law_floor (K : PySem.W.Frag) (E : XK) : TS := (tSeq (tAsg (tOp rAddI (tC (.int 1)) (tCall (sp_law_draw K) [] E0 (tCons (tVar 0) (tCons (tC (.int 3)) tNil)))) (gName 1)) (tSeq (tAsg (tLst tNil) (gName 2)) (tSeq (tFor (iRng1 (tCons (tOp rAddI (tC (.int 1)) (tCall (sp_law_draw K) [] E0 (tCons (tVar 0) (tCons (tC (.int 2)) tNil)))) tNil)) (gName 3) (tDrop (tBM K "list" rAppend (tVar 2) (tCons (tBM K "str" (rJoinS K) (tC (.str "")) (tCons (tLc (iRng1 (tCons (tVar 1) tNil)) (gName 4) tYes (tOp rIxS (tC (.str "...#")) (tCall (sp_law_draw K) [] E0 (tCons (tVar 0) (tCons (tC (.int 4)) tNil)))) [4]) tNil)) tNil)))) (tRet (tMake (He.ga K "Floor") (sp_Floor_d_init K) [] E0 (tCons (tVar 2) tNil))))))
theorem len_law_floor {K : PySem.W.Frag} {vs : List V} {H : Hp} {Q : VK} {E : XK} (h : sp_law_floor K vs H Q E) : vs.length = 1 := by
  obtain ⟨_, rfl, _⟩ := h; rfl
theorem pure_law_floor {K : PySem.W.Frag} (vs : List V) (H : Hp) (Q : VK) (E : XK) (h : sp_law_floor K vs H Q E) : t_law_floor K E { nx := fun _ H' => Q .non H', rt := Q } (start N_law_floor vs) H := by
  obtain ⟨t, rfl, ht, q⟩ := h
  unfold t_law_floor
  repeat walk_at "mst"
  refine use_draw (n := 3) ht (by decide) (by decide) fun w H1 w0 w1 k1 ht1 => ?_
  repeat walk_at "mst"
  walk_at "new"; rename_i p np H2 e2 s2
  repeat walk_at "mst"
  refine use_draw (n := 2) (ht1.ex e2) (by decide) (by decide) fun r H3 r0 r1 k3 ht3 => ?_
  have tp := ht1.ne np
  have hp3 := k3 _ _ s2 tp.symm
  have k03 : Tk t H H3 := (k1.trans (Tk.of e2)).trans k3
  have npH : ∀ c o, H c = some o → c ≠ t → c ≠ p := fun c o z n => ne_of_none (k1 _ _ z n) np
  obtain ⟨w, rfl⟩ : ∃ w' : Nat, w = w' := ⟨w.toNat, by omega⟩
  repeat walk_at "mst"
  refine ⟨_, rfl, by omega, by omega, ?_⟩
  refine forK_range (n := (1 + r).toNat) (fun k σ H' => Tk t H H' ∧ TapeAt H' t ∧ (∃ rs : Fl, H' p = some (.lst (rowsV rs)) ∧ rs.length = k ∧ ∀ l ∈ rs, OkR (1 + w) l) ∧ ∃ x3 : Option V, σ = [some (.ref t), some (.int (1 + (w : Int))), some (.ref p), x3, none]) ⟨k03, ht3, ⟨[], hp3, rfl, fun c m => nomatch m⟩, _, rfl⟩ ?_ ?_
  · rintro k σ H4 hk ⟨k4, ht4, ⟨rs, hp, lc, bc⟩, x3, rfl⟩
    repeat walk_at "mst"
    refine k_tyX ?_
    repeat walk_at "mst"
    refine ⟨_, rfl, by omega, by omega, ?_⟩
    refine lcR_rst (n := (1 + (w : Int)).toNat) (fun k acc H' => Tk t H4 H' ∧ TapeAt H' t ∧ ∃ cs : List Nat, acc = cs.map (fun c => V.str (tx [c])) ∧ ∀ c ∈ cs, c = 46 ∨ c = 35) (Nat.lt_of_le_of_lt (show _ ≤ 100 by omega) (by decide)) ?_ (fun D hD => ⟨Tk.of (Evl.Ex.new hD), ht4.ex (Evl.Ex.new hD), [], rfl, fun z m => nomatch m⟩) ?_ ?_
    · rintro D k acc ys H2 H3 hD hd kp ⟨a, b, c⟩
      exact ⟨a.mu hD kp, b.kp (ht4.ne hD) kp, c⟩
    · rintro k acc H5 D ys hD hd hk la ⟨a, b, cs, rfl, hz⟩ R r
      repeat walk_at "mst"
      refine use_draw (n := 4) b (by decide) (by decide) fun v H6 v0 v1 k6 t6 => ?_
      have put : ∀ c, (c = 46 ∨ c = 35) → R (V.str (tx [c])) H6 := fun c hc => r _ H6 (k6 _ _ hd (ht4.ne hD).symm) ⟨a.trans k6, t6, cs ++ [c], by rw [List.map_append]; rfl, fun z m => by
        rcases List.mem_append.mp m with m | m
        · exact hz z m
        · rw [List.mem_singleton] at m; rw [m]; exact hc⟩
      have v4 : v = 0 ∨ v = 1 ∨ v = 2 ∨ v = 3 := by omega
      rcases v4 with rfl | rfl | rfl | rfl
      · exact ⟨_, _, 46, rfl, rfl, by decide +kernel, by decide +kernel, put 46 (by simp)⟩
      · exact ⟨_, _, 46, rfl, rfl, by decide +kernel, by decide +kernel, put 46 (by simp)⟩
      · exact ⟨_, _, 46, rfl, rfl, by decide +kernel, by decide +kernel, put 46 (by simp)⟩
      · exact ⟨_, _, 35, rfl, rfl, by decide +kernel, by decide +kernel, put 35 (by simp)⟩
    · rintro D acc H5 hD la hd ⟨a, b, cs, rfl, hz⟩
      rw [List.length_map] at la
      have hp5 := a _ _ hp tp.symm
      repeat walk_at "mst"
      refine k_joinX (k_sq hd) (by omega) ?_
      repeat walk_at "mst"
      · rw [rowsV_len]; exact Nat.lt_of_le_of_lt (show _ ≤ 100 by omega) (by decide)
      refine ⟨fun c o z n => (upd_ne (npH c o z n)).trans (a _ _ (k4 _ _ z n) n), b.kp tp fun c o z n => (upd_ne n).trans z, ⟨rs ++ [cs], by rw [upd_same]; unfold rowsV; rw [List.map_append]; rfl, by rw [List.length_append, lc]; rfl, fun l m => ?_⟩, _, rfl⟩
      rcases List.mem_append.mp m with m | m
      · exact bc l m
      · rw [List.mem_singleton] at m; rw [m]; exact ⟨by omega, hz⟩
  · rintro σ H4 ⟨k4, ht4, ⟨rs, hp, lc, bc⟩, x3, rfl⟩
    repeat walk_at "mst"
    have ok : OkF rs (1 + w) := ⟨by omega, by omega, by omega, by omega, bc⟩
    refine mk_fl (k_sq hp) ok fun x H5 nx e5 hx => ?_
    repeat walk_at "mst"
    exact q _ H5 (_, _) (k4.trans (Tk.of e5)) (ht4.ex e5) ⟨x, rfl, .floor hx ok⟩
def sp_Frogs_d_init (K : PySem.W.Frag) : Sp := fun vs H Q E => ∃ (p dx : Addr) (x : V), vs = [.ref p, x] ∧ H p = some (.ins (He.ga K "Frogs") dx []) ∧ (
  (∃ l, x = .str (tx l) ∧ OkL l ∧ ∀ H', (∀ c o, H c = some o → c ≠ p → H' c = some o) → H' p = some (.ins (He.ga K "Frogs") dx (gfs (tx l))) → Q .non H')
  ∨ (∃ T, TyB K H x T ∧ T ≠ "str" ∧ E (.ref (He.ga K "BadValue")) none H)
  ∨ (∃ l, x = .str (tx l) ∧ l.length ≤ 100 ∧ (12 < l.length ∨ ∃ c ∈ l, okc c = false) ∧ ∀ H', Ex H H' → E (.ref (He.ga K "BadValue")) none H'))
abbrev N_Frogs_d_init : List Str := ["self", "line", "sign"]
def t_Frogs_d_init (K : PySem.W.Frag) (E : XK) : TS := (tSeq (tIfS (tOr (tTest (tOp rNT (tCB (rTyp K) (tCons (tVar 1) tNil)) (tC (.ty "str")))) (tTest (tOp rGtI (tCB rLenS (tCons (tVar 1) tNil)) (tC (.int 12))))) (tRaise E (.ref (He.ga K "BadValue"))) tNext) (tSeq (tIfS (tNot (tB (tCB (rAll K) (tCons (tLc (iStr (tVar 1)) (gName 2) tYes (tOp (rIn K false) (tVar 2) (tC (.ref (He.ga K "SIGNS")))) [2]) tNil)))) (tRaise E (.ref (He.ga K "BadValue"))) tNext) (sFld K (tVar 0) (tVar 1) "_line")))
theorem len_Frogs_d_init {K : PySem.W.Frag} {vs : List V} {H : Hp} {Q : VK} {E : XK} (h : sp_Frogs_d_init K vs H Q E) : vs.length = 2 := by
  obtain ⟨_, _, _, rfl, _⟩ := h; rfl
theorem pure_Frogs_d_init {K : PySem.W.Frag} (F : FFrogs K) (G : FSIGNS K) (vs : List V) (H : Hp) (Q : VK) (E : XK) (h : sp_Frogs_d_init K vs H Q E) : t_Frogs_d_init K E { nx := fun _ H' => Q .non H', rt := Q } (start N_Frogs_d_init vs) H := by
  obtain ⟨p, dx, x, rfl, hp, h⟩ := h
  have walk : ∀ l : List Nat, x = .str (tx l) → l.length ≤ 100 → ((12 < l.length ∨ ∃ c ∈ l, okc c = false) → ∀ H', Ex H H' → E (.ref (He.ga K "BadValue")) none H') → (l.length ≤ 12 → (∀ c ∈ l, okc c = true) → ∀ H', (∀ c o, H c = some o → c ≠ p → H' c = some o) → H' p = some (.ins (He.ga K "Frogs") dx (gfs (tx l))) → Q .non H') →
      t_Frogs_d_init K E { nx := fun _ H' => Q .non H', rt := Q } (start N_Frogs_d_init [.ref p, x]) H := by
    rintro l rfl l100 bad good
    unfold t_Frogs_d_init
    repeat walk_at "mst"
    refine ⟨_, "str", rfl, .str _, ?_⟩
    repeat walk_at "mst"
    refine k_NT ?_
    rw [decide_eq_true rfl]
    repeat walk_at "mst"
    refine k_lenX (by omega) ?_
    repeat walk_at "mst"
    refine k_iteD (fun z => ?_) (fun z => ?_)
    · repeat walk_at "mst"
      exact bad (Or.inl (by omega)) _ (Evl.Ex.refl _)
    · have l12 : l.length ≤ 12 := by omega
      repeat walk_at "mst"
      refine k_istr ?_
      repeat walk_at "mst"
      refine ⟨_, rfl, lcR_str (fun c => some (V.bl (okc c))) (by omega) (fun i c hc => ?_) fun D H2 nD e2 hD => ?_⟩
      · refine turn_map fun H'' e R r => ?_
        repeat walk_at "mst"
        exact k_signs G r
      · have em : l.filterMap (fun c => some (V.bl (okc c))) = (l.map okc).map V.bl := by
          rw [List.map_map]
          clear hD
          induction l with
          | nil => rfl
          | cons c l ih => rw [List.filterMap_cons, List.map_cons]; show _ :: _ = _ :: _; congr 1; exact List.filterMap_eq_map (f := fun c => V.bl (okc c)) ▸ rfl
        rw [em] at hD
        repeat walk_at "mst"
        refine k_allX (k_sq hD) ?_
        have hp2 := e2 _ _ hp
        have ea : (l.map okc).all id = l.all okc := by rw [List.all_map]; rfl
        rw [ea]
        cases hb : l.all okc
        · repeat walk_at "mst"
          refine bad (Or.inr ?_) _ e2
          by_cases ex : ∃ c ∈ l, okc c = false
          · exact ex
          · exfalso
            have : l.all okc = true := List.all_eq_true.mpr fun c m => by
              cases h : okc c
              · exact absurd ⟨c, m, h⟩ ex
              · rfl
            rw [hb] at this
            cases this
        · repeat walk_at "mst"
          refine ⟨p, _, dx, [], rfl, hp2, F.cl, F.na, by show 0 < 1000; decide, ?_⟩
          exact good l12 (List.all_eq_true.mp hb) _ (fun c o z y => (upd_ne y).trans (e2 _ _ z)) upd_same
  have iff : ∀ c, (c = 84 ∨ c = 70 ∨ c = 46) ↔ okc c = true := by
    intro c
    unfold okc
    rw [Bool.or_eq_true, Bool.or_eq_true, decide_eq_true_iff, decide_eq_true_iff, decide_eq_true_iff]
  rcases h with ⟨l, rfl, ok, q⟩ | ⟨T, t, n, r⟩ | ⟨l, rfl, l100, b, r⟩
  · refine walk l rfl (Nat.le_trans ok.1 (by decide)) (fun h => ?_) (fun _ _ => q)
    rcases h with h | ⟨c, m, h⟩
    · have := ok.1; omega
    · have := (iff c).mp (ok.2 c m)
      rw [h] at this
      cases this
  · unfold t_Frogs_d_init
    repeat walk_at "mst"
    refine ⟨_, T, rfl, t, ?_⟩
    repeat walk_at "mst"
    refine k_NT ?_
    rw [decide_eq_false n]
    repeat walk_at "mst"
    exact r
  · refine walk l rfl l100 (fun _ => r) (fun h1 h2 => ?_)
    rcases b with b | ⟨c, m, h⟩
    · omega
    · have := h2 c m
      rw [h] at this
      cases this
/-- a row is made -/
theorem mk_fg {K : PySem.W.Frag} {H : Hp} {Q : Addr → Hp → Prop} {E : XK} {l : List Nat} (ok : OkL l) (k : ∀ x H', H x = none → Ex H H' → FgAt K H' x l → Q x H') :
    ∀ x dx, H x = none → H dx = none → dx ≠ x → sp_Frogs_d_init K (.ref x :: ([.str (tx l)] ++ [])) (upd (upd H dx (.own x)) x (.ins (He.ga K "Frogs") dx [])) (fun v H2 => v = .non ∧ Q x H2) E := by
  intro x dx hx hd hne
  have e : Ex H (upd (upd H dx (.own x)) x (.ins (He.ga K "Frogs") dx [])) := (Evl.Ex.new hd).trans (Evl.Ex.new (by rw [upd_ne hne.symm]; exact hx))
  exact ⟨x, dx, _, rfl, upd_same, Or.inl ⟨l, rfl, ok, fun H' kp h2 => ⟨rfl, k x H' hx (fun c o z => kp c o (e _ _ z) (ne_of_none z hx)) ⟨dx, h2⟩⟩⟩⟩
def sp_law_frogs (K : PySem.W.Frag) : Sp := sp_bd K
abbrev N_law_frogs : List Str := ["tape", "k"]
def t_law_frogs (K : PySem.W.Frag) (E : XK) : TS := (tRet (tMake (He.ga K "Frogs") (sp_Frogs_d_init K) [] E0 (tCons (tBM K "str" (rJoinS K) (tC (.str "")) (tCons (tLc (iRng1 (tCons (tCall (sp_law_draw K) [] E0 (tCons (tVar 0) (tCons (tC (.int 7)) tNil))) tNil)) (gName 1) tYes (tOp rIxS (tC (.str "TF..")) (tCall (sp_law_draw K) [] E0 (tCons (tVar 0) (tCons (tC (.int 4)) tNil)))) [1]) tNil)) tNil)))
theorem len_law_frogs {K : PySem.W.Frag} {vs : List V} {H : Hp} {Q : VK} {E : XK} (h : sp_law_frogs K vs H Q E) : vs.length = 1 := by
  obtain ⟨_, rfl, _⟩ := h; rfl
theorem pure_law_frogs {K : PySem.W.Frag} (vs : List V) (H : Hp) (Q : VK) (E : XK) (h : sp_law_frogs K vs H Q E) : t_law_frogs K E { nx := fun _ H' => Q .non H', rt := Q } (start N_law_frogs vs) H := by
  obtain ⟨t, rfl, ht, q⟩ := h
  unfold t_law_frogs
  repeat walk_at "mst"
  refine k_tyX ?_
  repeat walk_at "mst"
  refine use_draw (n := 7) ht (by decide) (by decide) fun r H1 r0 r1 k1 ht1 => ?_
  repeat walk_at "mst"
  refine ⟨_, rfl, by omega, by omega, ?_⟩
  refine lcR_rst (n := r.toNat) (fun k acc H' => Tk t H1 H' ∧ TapeAt H' t ∧ ∃ cs : List Nat, acc = cs.map (fun c => V.str (tx [c])) ∧ ∀ c ∈ cs, c = 84 ∨ c = 70 ∨ c = 46) (Nat.lt_of_le_of_lt (show _ ≤ 100 by omega) (by decide)) ?_ (fun D hD => ⟨Tk.of (Evl.Ex.new hD), ht1.ex (Evl.Ex.new hD), [], rfl, fun z m => nomatch m⟩) ?_ ?_
  · rintro D k acc ys H2 H3 hD hd kp ⟨a, b, c⟩
    exact ⟨a.mu hD kp, b.kp (ht1.ne hD) kp, c⟩
  · rintro k acc H2 D ys hD hd hk la ⟨a, b, cs, rfl, hz⟩ R r
    repeat walk_at "mst"
    refine use_draw (n := 4) b (by decide) (by decide) fun v H3 v0 v1 k3 t3 => ?_
    have put : ∀ c, (c = 84 ∨ c = 70 ∨ c = 46) → R (V.str (tx [c])) H3 := fun c hc => r _ H3 (k3 _ _ hd (ht1.ne hD).symm) ⟨a.trans k3, t3, cs ++ [c], by rw [List.map_append]; rfl, fun z m => by
      rcases List.mem_append.mp m with m | m
      · exact hz z m
      · rw [List.mem_singleton] at m; rw [m]; exact hc⟩
    have v4 : v = 0 ∨ v = 1 ∨ v = 2 ∨ v = 3 := by omega
    rcases v4 with rfl | rfl | rfl | rfl
    · exact ⟨_, _, 84, rfl, rfl, by decide +kernel, by decide +kernel, put 84 (by simp)⟩
    · exact ⟨_, _, 70, rfl, rfl, by decide +kernel, by decide +kernel, put 70 (by simp)⟩
    · exact ⟨_, _, 46, rfl, rfl, by decide +kernel, by decide +kernel, put 46 (by simp)⟩
    · exact ⟨_, _, 46, rfl, rfl, by decide +kernel, by decide +kernel, put 46 (by simp)⟩
  · rintro D acc H2 hD la hd ⟨a, b, cs, rfl, hz⟩
    rw [List.length_map] at la
    have ok : OkL cs := ⟨by omega, hz⟩
    repeat walk_at "mst"
    refine k_joinX (k_sq hd) (by omega) ?_
    repeat walk_at "mst"
    refine mk_fg ok fun x H3 nx e3 hx => ?_
    repeat walk_at "mst"
    exact q _ H3 (_, _) (k1.trans (a.trans (Tk.of e3))) (b.ex e3) ⟨x, rfl, .frogs hx ok⟩
def LenV (K : PySem.W.Frag) (H : Hp) (y : V) : Prop := ∃ T, TyB K H y T
/-- a thing that is no cake -/
def BadK (K : PySem.W.Frag) (H : Hp) (y : V) : Prop := (∃ T, TyB K H y T ∧ T ≠ "tuple") ∨ (∃ a xs, y = .ref a ∧ H a = some (.tup xs) ∧ xs.length ≠ 2) ∨ ∃ a y1 y2, y = .ref a ∧ H a = some (.tup [y1, y2]) ∧ (∃ T, TyB K H y1 T) ∧ (∃ T, TyB K H y2 T) ∧ (wholeV y1 1 12 = false ∨ wholeV y2 1 12 = false)
theorem BadK.ex {K : PySem.W.Frag} {H H' : Hp} {y : V} (h : BadK K H y) (e : Ex H H') : BadK K H' y := by
  rcases h with ⟨T, t, n⟩ | ⟨a, xs, q, z, l⟩ | ⟨a, y1, y2, q, z, ⟨T, t⟩, ⟨U, u⟩, h⟩
  · exact Or.inl ⟨T, TyB.ex t e, n⟩
  · exact Or.inr (Or.inl ⟨a, xs, q, e _ _ z, l⟩)
  · exact Or.inr (Or.inr ⟨a, y1, y2, q, e _ _ z, ⟨T, TyB.ex t e⟩, ⟨U, TyB.ex u e⟩, h⟩)
def sp_check_cake (K : PySem.W.Frag) : Sp := fun vs H Q E => ∃ (y : V), vs = [y] ∧ ((∃ c, CkAt H y c ∧ OkK c ∧ Q .non H) ∨ (BadK K H y ∧ E (.ref (He.ga K "BadValue")) none H))
abbrev N_check_cake : List Str := ["cake", "length"]
def t_check_cake (K : PySem.W.Frag) (E : XK) : TS := (tSeq (tIfS (tOr (tTest (tOp rNT (tCB (rTyp K) (tCons (tVar 0) tNil)) (tC (.ty "tuple")))) (tTest (tOp rNe (tCB (rLenQ K) (tCons (tVar 0) tNil)) (tC (.int 2))))) (tRaise E (.ref (He.ga K "BadValue"))) tNext) (tFor (iTup K (tVar 0)) (gName 1) (tIfS (tNot (tB (tCall (sp_is_whole K) [] E0 (tCons (tVar 1) (tCons (tC (.int 1)) (tCons (tC (.int 12)) tNil)))))) (tRaise E (.ref (He.ga K "BadValue"))) tNext)))
theorem len_check_cake {K : PySem.W.Frag} {vs : List V} {H : Hp} {Q : VK} {E : XK} (h : sp_check_cake K vs H Q E) : vs.length = 1 := by
  obtain ⟨_, rfl, _⟩ := h; rfl
theorem pure_check_cake {K : PySem.W.Frag} (vs : List V) (H : Hp) (Q : VK) (E : XK) (h : sp_check_cake K vs H Q E) : t_check_cake K E { nx := fun _ H' => Q .non H', rt := Q } (start N_check_cake vs) H := by
  obtain ⟨y, rfl, h⟩ := h
  unfold t_check_cake
  have two : ∀ (a : Addr) (y1 y2 : V), y = .ref a → H a = some (.tup [y1, y2]) → (∃ T, TyB K H y1 T) → (∃ T, TyB K H y2 T) → ((wholeV y1 1 12 = false ∨ wholeV y2 1 12 = false) → E (.ref (He.ga K "BadValue")) none H) → (wholeV y1 1 12 = true → wholeV y2 1 12 = true → Q .non H) → t_check_cake K E { nx := fun _ H' => Q .non H', rt := Q } (start N_check_cake [y]) H := by
    rintro a y1 y2 rfl ha t1 t2 bad good
    unfold t_check_cake
    repeat walk_at "mst"
    refine ⟨_, "tuple", rfl, .tup (k_st ha), ?_⟩
    repeat walk_at "mst"
    refine k_NT ?_
    rw [decide_eq_true rfl]
    repeat walk_at "mst"
    refine k_iteD (fun z => absurd rfl z) (fun _ => ?_)
    repeat walk_at "mst"
    refine ⟨a, rfl, ⟨_, k_st ha⟩, forK_tup (xs := [y1, y2]) (fun i σ H' => H' = H ∧ (∀ y ∈ [y1, y2].take i, wholeV y 1 12 = true) ∧ ∃ x1 : Option V, σ = [some (.ref a), x1]) ⟨rfl, fun y m => (nomatch m), _, rfl⟩ ?_ ?_ ?_⟩
    · rintro i σ H' _ ⟨rfl, _⟩; exact k_st ha
    · rintro i x σ H' hx ⟨rfl, pre, x1, rfl⟩
      have mx := List.mem_of_getElem? hx
      have tx : ∃ T, TyB K H' x T := by
        simp only [List.mem_cons, List.not_mem_nil, or_false] at mx
        rcases mx with rfl | rfl
        · exact t1
        · exact t2
      obtain ⟨U, tU⟩ := tx
      repeat walk_at "mst"
      refine ⟨⟨x, U, _, _, rfl, tU⟩, ?_⟩
      rintro v H1 ⟨x', lo, hi, e, rfl, rfl⟩
      cases e
      repeat walk_at "mst"
      cases hw : wholeV x 1 12
      · repeat walk_at "mst"
        refine bad ?_
        simp only [List.mem_cons, List.not_mem_nil, or_false] at mx
        rcases mx with rfl | rfl
        · exact Or.inl hw
        · exact Or.inr hw
      · repeat walk_at "mst"
        refine ⟨rfl, fun y m => ?_, _, rfl⟩
        rw [List.take_add_one, hx] at m
        rcases List.mem_append.mp m with m | m
        · exact pre y m
        · have : y = x := by simpa using m
          rw [this]; exact hw
    · rintro σ H' ⟨rfl, pre, x1, rfl⟩
      exact good (pre _ (List.mem_cons_self ..)) (pre _ (List.mem_cons_of_mem _ (List.mem_cons_self ..)))
  rcases h with ⟨c, ⟨a, rfl, ha⟩, ⟨a1, a2, a3, a4⟩, q⟩ | ⟨br, q⟩
  · refine two a _ _ rfl ha ⟨_, .int _⟩ ⟨_, .int _⟩ (fun h => ?_) (fun _ _ => q)
    rw [wh_in a1 a2, wh_in a3 a4] at h
    rcases h with h | h <;> cases h
  · rcases br with ⟨T, t, n⟩ | ⟨a, xs, rfl, ha, l2⟩ | ⟨a, y1, y2, rfl, ha, t1, t2, b⟩
    · repeat walk_at "mst"
      refine ⟨_, T, rfl, t, ?_⟩
      repeat walk_at "mst"
      refine k_NT ?_
      rw [decide_eq_false n]
      repeat walk_at "mst"
      exact q
    · repeat walk_at "mst"
      refine ⟨_, "tuple", rfl, .tup (k_st ha), ?_⟩
      repeat walk_at "mst"
      refine k_NT ?_
      rw [decide_eq_true rfl]
      repeat walk_at "mst"
      refine k_iteD (fun _ => ?_) (fun z => absurd (show ((xs.length : Nat) : Int) ≠ 2 by omega) z)
      repeat walk_at "mst"
      exact q
    · refine two a y1 y2 rfl ha t1 t2 (fun _ => q) (fun h1 h2 => ?_)
      rw [h1, h2] at b
      rcases b with h | h <;> cases h
theorem use_ccheck {K : PySem.W.Frag} {H : Hp} {Q : VK} {E : XK} {y : V} (h : (∃ c, CkAt H y c ∧ OkK c ∧ Q .non H) ∨ (BadK K H y ∧ E (.ref (He.ga K "BadValue")) none H)) : sp_check_cake K ([y] ++ []) H Q E := ⟨y, rfl, h⟩
def sp_Cakes_d_init (K : PySem.W.Frag) : Sp := fun vs H Q E => ∃ (p dx : Addr) (x : V), vs = [.ref p, x] ∧ H p = some (.ins (He.ga K "Cakes") dx []) ∧ (
  (∃ a xs cs, x = .ref a ∧ SqL K H a xs ∧ CsAt H xs cs ∧ OkC cs ∧ ∀ t H', H t = none → (∀ c o, H c = some o → c ≠ p → H' c = some o) → H' t = some (.tup xs) → H' p = some (.ins (He.ga K "Cakes") dx (cfs t)) → Q .non H')
  ∨ (∃ T, TyB K H x T ∧ T ≠ "list" ∧ E (.ref (He.ga K "BadValue")) none H)
  ∨ (∃ a xs i y, x = .ref a ∧ SqL K H a xs ∧ xs.length ≤ 2000 ∧ xs[i]? = some y ∧ BadK K H y ∧ (∀ (j : Nat) (y : V), j < i → xs[j]? = some y → ∃ c, CkAt H y c ∧ OkK c) ∧ E (.ref (He.ga K "BadValue")) none H)
  ∨ (∃ a xs cs, x = .ref a ∧ SqL K H a xs ∧ CsAt H xs cs ∧ (∀ c ∈ cs, OkK c) ∧ cs.length ≤ 2000 ∧ 144 < sqs cs ∧ ∀ H', Ex H H' → E (.ref (He.ga K "BadValue")) none H'))
theorem k_mulW {H : Hp} {Q : VK} {i j : Int} (b1 : -4000 ≤ i ∧ i ≤ 4000) (b2 : -4000 ≤ j ∧ j ≤ 4000) (q : Q (.int (i * j)) H) : rMulW (.int i) (.int j) H Q :=
  ⟨i, j, rfl, rfl, wide_mul (a := 12) (b := 12) (Nat.lt_of_le_of_lt (show i.natAbs ≤ 4000 by omega) (by decide)) (Nat.lt_of_le_of_lt (show j.natAbs ≤ 4000 by omega) (by decide)) (by decide) (by decide) (by decide), q⟩
abbrev N_Cakes_d_init : List Str := ["self", "cakes", "cake", "rows", "columns"]
def t_Cakes_d_init (K : PySem.W.Frag) (E : XK) : TS := (tSeq (tIfS (tTest (tOp rNT (tCB (rTyp K) (tCons (tVar 1) tNil)) (tC (.ty "list")))) (tRaise E (.ref (He.ga K "BadValue"))) tNext) (tSeq (tFor (iList K (tVar 1)) (gName 2) (tDrop (tCall (sp_check_cake K) [] E (tCons (tVar 2) tNil)))) (tSeq (tIfS (tTest (tOp rGtI (tCB (rSum K) (tCons (tLc (iList K (tVar 1)) (gTup K 2 (gCons (gName 3) (gCons (gName 4) gNil))) tYes (tOp rMulW (tVar 3) (tVar 4)) [3, 4]) tNil)) (tC (.int 144)))) (tRaise E (.ref (He.ga K "BadValue"))) tNext) (sFld K (tVar 0) (tCB (rTupL K) (tCons (tVar 1) tNil)) "_cakes"))))
theorem len_Cakes_d_init {K : PySem.W.Frag} {vs : List V} {H : Hp} {Q : VK} {E : XK} (h : sp_Cakes_d_init K vs H Q E) : vs.length = 2 := by
  obtain ⟨_, _, _, rfl, _⟩ := h; rfl
theorem sq_list {ys : List V} {xs : List V} {cs : List Ck} {H : Hp} (R : CsAt H xs cs) (l : ys.length = xs.length) (h : ∀ (i : Nat) (x : V), xs[i]? = some x → ∃ y, ys[i]? = some y ∧ ∀ c, CkAt H x c → y = .int (c.1 * c.2)) : ys = (cs.map fun c => c.1 * c.2).map V.int := by
  refine List.ext_getElem? fun i => ?_
  rcases Nat.lt_or_ge i cs.length with c | c
  · have hc := List.getElem?_eq_getElem c
    obtain ⟨x, hx, hk⟩ := R.2 i _ hc
    obtain ⟨y, hy, e⟩ := h i x hx
    rw [hy, e _ hk, List.getElem?_map, List.getElem?_map, hc]; rfl
  · rw [List.getElem?_eq_none (by rw [l, R.1]; exact c), List.getElem?_eq_none (by rw [List.length_map, List.length_map]; exact c)]
theorem pure_Cakes_d_init {K : PySem.W.Frag} (F : FCakes K) (vs : List V) (H : Hp) (Q : VK) (E : XK) (h : sp_Cakes_d_init K vs H Q E) : t_Cakes_d_init K E { nx := fun _ H' => Q .non H', rt := Q } (start N_Cakes_d_init vs) H := by
  obtain ⟨p, dx, x, rfl, hp, h⟩ := h
  have walk : ∀ (a : Addr) (xs : List V) (i0 : Nat), x = .ref a → SqL K H a xs → i0 ≤ xs.length → xs.length ≤ 2000 →
      (∀ (j : Nat) (y : V), j < i0 → xs[j]? = some y → ∃ c, CkAt H y c ∧ OkK c) →
      (i0 < xs.length → ∃ y, xs[i0]? = some y ∧ BadK K H y ∧ E (.ref (He.ga K "BadValue")) none H) →
      (i0 = xs.length → ∃ cs, CsAt H xs cs ∧ (∀ c ∈ cs, OkK c) ∧ (144 < sqs cs → ∀ H', Ex H H' → E (.ref (He.ga K "BadValue")) none H') ∧ (¬ 144 < sqs cs → ∀ t H', H t = none → (∀ c o, H c = some o → c ≠ p → H' c = some o) → H' t = some (.tup xs) → H' p = some (.ins (He.ga K "Cakes") dx (cfs t)) → Q .non H')) →
      t_Cakes_d_init K E { nx := fun _ H' => Q .non H', rt := Q } (start N_Cakes_d_init [.ref p, x]) H := by
    rintro a xs i0 rfl hS il l2 good bad fin
    unfold t_Cakes_d_init
    repeat walk_at "mst"
    refine ⟨_, "list", rfl, .lst hS, ?_⟩
    repeat walk_at "mst"
    refine k_NT ?_
    rw [decide_eq_true rfl]
    repeat walk_at "mst"
    refine ⟨a, rfl, ⟨_, hS⟩, forK_list (xs := xs) (fun i σ H' => H' = H ∧ i ≤ i0 ∧ ∃ x2 : Option V, σ = [some (.ref p), some (.ref a), x2, none, none]) ⟨rfl, Nat.zero_le _, _, rfl⟩ ?_ ?_ ?_⟩
    · rintro i σ H' _ ⟨rfl, _⟩; exact hS
    · rintro i y σ H' hy ⟨rfl, ij, x2, rfl⟩
      have hi := (List.getElem?_eq_some_iff.mp hy).1
      repeat walk_at "mst"
      rcases Nat.lt_or_ge i i0 with l | l
      · obtain ⟨c, hc, ok⟩ := good i y l hy
        refine use_ccheck (Or.inl ⟨c, hc, ok, ?_⟩)
        repeat walk_at "mst"
        exact ⟨rfl, l, _, rfl⟩
      · have ei : i = i0 := by omega
        subst ei
        obtain ⟨y', hy', br, r⟩ := bad hi
        rw [hy] at hy'
        injection hy' with hy'
        subst hy'
        exact use_ccheck (Or.inr ⟨br, r⟩)
    · rintro σ H' ⟨rfl, ij, x2, rfl⟩
      obtain ⟨cs, R, okk, bp, gp⟩ := fin (by omega)
      repeat walk_at "mst"
      refine ⟨a, rfl, ⟨_, hS⟩, lcQ_list (xs := xs) (fun x y _ => ∀ c, CkAt H' x c → y = .int (c.1 * c.2)) (fun _ _ _ _ h _ => h) hS (fits' (by omega)) ?_ ?_⟩
      · intro i x hx H2 e RR rr
        have hi := (List.getElem?_eq_some_iff.mp hx).1
        have hc := List.getElem?_eq_getElem (l := cs) (i := i) (by rw [← R.1]; exact hi)
        obtain ⟨x', hx', u, rfl, hu⟩ := R.2 i _ hc
        rw [hx] at hx'
        injection hx' with hx'
        subst hx'
        have ok := okk _ (List.mem_of_getElem? hc)
        obtain ⟨o1, o2, o3, o4⟩ := ok
        refine k_gtup (k_st (e _ _ hu)) rfl ?_
        repeat walk_at "mst"
        refine ⟨rfl, ?_⟩
        unfold tYes
        repeat walk_at "mst"
        refine k_mulW ?_ ?_ ?_
        · omega
        · omega
        refine rr _ _ (Evl.Ex.refl _) fun c hcc => ?_
        obtain ⟨u', eu, hu'⟩ := hcc
        injection eu with eu
        subst eu
        rw [hu] at hu'
        injection hu' with hu'
        injection hu' with hu'
        simp only [List.cons.injEq, V.int.injEq, and_true] at hu'
        rw [← hu'.1, ← hu'.2]
      · intro D ys H2 hD e hd yl ok2
        have es := sq_list R yl ok2
        rw [es] at hd
        repeat walk_at "mst"
        refine ⟨D, _, rfl, k_sq hd, ?_⟩
        repeat walk_at "mst"
        refine k_iteD (fun z => ?_) (fun z => ?_)
        · repeat walk_at "mst"
          exact bp z _ e
        · have hS2 := Evl.ex_l e hS
          have hp2 := e _ _ hp
          repeat walk_at "mst"
          refine fun t ht => ?_
          have npt : p ≠ t := ne_of_none hp2 ht
          repeat walk_at "mst"
          refine ⟨p, _, dx, [], rfl, (upd_ne npt).trans hp2, F.cl, F.na, by show 0 < 1000; decide, ?_⟩
          refine gp z t _ (Evl.fresh_back e ht) (fun c o z y => ?_) ?_ upd_same
          · rw [upd_ne y, upd_ne (ne_of_none (e _ _ z) ht)]; exact e _ _ z
          · rw [upd_ne npt.symm, upd_same]
  rcases h with ⟨a, xs, cs, rfl, hS, R, ok, q⟩ | ⟨T, t, n, r⟩ | ⟨a, xs, i, y, rfl, hS, l2, hy, br, good, r⟩ | ⟨a, xs, cs, rfl, hS, R, okk, l2, w, r⟩
  · have l := R.1
    have o1 := ok.len
    refine walk a xs xs.length rfl hS (Nat.le_refl _) (by omega) (fun j y hj hy => ?_) (fun h => absurd h (Nat.lt_irrefl _)) (fun _ => ⟨cs, R, ok.1, fun h => by have := ok.2; omega, fun _ => q⟩)
    have hc := List.getElem?_eq_getElem (l := cs) (i := j) (by omega)
    obtain ⟨y', h1, h2⟩ := R.2 j _ hc
    rw [hy] at h1
    injection h1 with h1
    subst h1
    exact ⟨_, h2, ok.1 _ (List.mem_of_getElem? hc)⟩
  · unfold t_Cakes_d_init
    repeat walk_at "mst"
    refine ⟨_, T, rfl, t, ?_⟩
    repeat walk_at "mst"
    refine k_NT ?_
    rw [decide_eq_false n]
    repeat walk_at "mst"
    exact r
  · have hi := (List.getElem?_eq_some_iff.mp hy).1
    exact walk a xs i rfl hS (by omega) l2 good (fun _ => ⟨y, hy, br, r⟩) (fun h => by omega)
  · have l := R.1
    refine walk a xs xs.length rfl hS (Nat.le_refl _) (by omega) (fun j y hj hy => ?_) (fun h => absurd h (Nat.lt_irrefl _)) (fun _ => ⟨cs, R, okk, fun _ => r, fun h => absurd w h⟩)
    have hc := List.getElem?_eq_getElem (l := cs) (i := j) (by omega)
    obtain ⟨y', h1, h2⟩ := R.2 j _ hc
    rw [hy] at h1
    injection h1 with h1
    subst h1
    exact ⟨_, h2, okk _ (List.mem_of_getElem? hc)⟩
/-- a board of cakes is made -/
theorem mk_cb {K : PySem.W.Frag} {H : Hp} {Q : Addr → Hp → Prop} {E : XK} {a : Addr} {xs : List V} {cs : List Ck} (hS : SqL K H a xs) (R : CsAt H xs cs) (ok : OkC cs) (k : ∀ x H', H x = none → Ex H H' → CbAt K H' x cs → Q x H') :
    ∀ x dx, H x = none → H dx = none → dx ≠ x → sp_Cakes_d_init K (.ref x :: ([.ref a] ++ [])) (upd (upd H dx (.own x)) x (.ins (He.ga K "Cakes") dx [])) (fun v H2 => v = .non ∧ Q x H2) E := by
  intro x dx hx hd hne
  have e : Ex H (upd (upd H dx (.own x)) x (.ins (He.ga K "Cakes") dx [])) := (Evl.Ex.new hd).trans (Evl.Ex.new (by rw [upd_ne hne.symm]; exact hx))
  exact ⟨x, dx, _, rfl, upd_same, Or.inl ⟨a, xs, cs, rfl, Evl.ex_l e hS, R.ex e, ok, fun t H' ht kp h1 h2 => ⟨rfl, k x H' hx (fun c o z => kp c o (e _ _ z) (ne_of_none z hx)) ⟨dx, t, xs, h2, h1, R.ex (fun c o z => kp c o (e _ _ z) (ne_of_none z hx))⟩⟩⟩⟩
local macro_rules | `(tactic| walk_at "new") => `(tactic| ((first | refine ⟨fits (Nat.le_of_ble_eq_true rfl), ?_⟩ | skip); intro p np; generalize hq : upd _ p _ = H1; have e1 := nx np hq; have s1 := nS hq; clear hq))
def sp_law_cakes (K : PySem.W.Frag) : Sp := sp_bd K
abbrev N_law_cakes : List Str := ["tape", "cakes", "k"]
def t_law_cakes (K : PySem.W.Frag) (E : XK) : TS := (tSeq (tAsg (tLst tNil) (gName 1)) (tSeq (tFor (iRng1 (tCons (tCall (sp_law_draw K) [] E0 (tCons (tVar 0) (tCons (tC (.int 3)) tNil))) tNil)) (gName 2) (tDrop (tBM K "list" rAppend (tVar 1) (tCons (tTup (tCons (tOp rAddI (tC (.int 1)) (tCall (sp_law_draw K) [] E0 (tCons (tVar 0) (tCons (tC (.int 2)) tNil)))) (tCons (tOp rAddI (tOp rAddI (tC (.int 1)) (tCall (sp_law_draw K) [] E0 (tCons (tVar 0) (tCons (tC (.int 2)) tNil)))) (tCB rIntB (tCons (tOp rEq (tVar 2) (tC (.int 0))) tNil))) tNil))) tNil)))) (tRet (tMake (He.ga K "Cakes") (sp_Cakes_d_init K) [] E0 (tCons (tVar 1) tNil)))))
theorem len_law_cakes {K : PySem.W.Frag} {vs : List V} {H : Hp} {Q : VK} {E : XK} (h : sp_law_cakes K vs H Q E) : vs.length = 1 := by
  obtain ⟨_, rfl, _⟩ := h; rfl
theorem pure_law_cakes {K : PySem.W.Frag} (vs : List V) (H : Hp) (Q : VK) (E : XK) (h : sp_law_cakes K vs H Q E) : t_law_cakes K E { nx := fun _ H' => Q .non H', rt := Q } (start N_law_cakes vs) H := by
  obtain ⟨t, rfl, ht, q⟩ := h
  unfold t_law_cakes
  repeat walk_at "mst"
  walk_at "new"; rename_i p np H1 e1 s1
  repeat walk_at "mst"
  refine use_draw (n := 3) (ht.ex e1) (by decide) (by decide) fun r H2 r0 r1 k2 ht2 => ?_
  have tp := ht.ne np
  have hp2 := k2 _ _ s1 tp.symm
  repeat walk_at "mst"
  refine ⟨_, rfl, by omega, by omega, ?_⟩
  refine forK_range (n := r.toNat) (fun k σ H' => Tk t H H' ∧ TapeAt H' t ∧ (∃ (xs : List V) (cs : List Ck), H' p = some (.lst xs) ∧ CsAt H' xs cs ∧ cs.length = k ∧ ∀ c ∈ cs, 1 ≤ c.1 ∧ c.1 ≤ 2 ∧ 1 ≤ c.2 ∧ c.2 ≤ 3) ∧ ∃ x2 : Option V, σ = [some (.ref t), some (.ref p), x2]) ⟨(Tk.of e1).trans k2, ht2, ⟨[], [], hp2, ⟨rfl, fun i c h => by cases i <;> cases h⟩, rfl, fun c m => nomatch m⟩, _, rfl⟩ ?_ ?_
  · rintro k σ H3 hk ⟨k3, ht3, ⟨xs, cs, hp, hc, lc, bc⟩, x2, rfl⟩
    repeat walk_at "mst"
    refine use_draw (n := 2) ht3 (by decide) (by decide) fun v1 H4 v10 v11 k4 ht4 => ?_
    repeat walk_at "mst"
    refine use_draw (n := 2) ht4 (by decide) (by decide) fun v2 H5 v20 v21 k5 ht5 => ?_
    repeat walk_at "mst"
    refine k_rIntB ?_
    repeat walk_at "mst"
    obtain ⟨e, he, e1, e3⟩ : ∃ e : Int, (1 + v2 + if decide ((k : Int) = 0) = true then 1 else 0) = e ∧ 1 ≤ e ∧ e ≤ 3 := ⟨_, rfl, by split <;> omega, by split <;> omega⟩
    rw [he]
    refine ⟨by show 2 ≤ sizeLine; decide, fun u nu => ?_⟩
    have e6 := Evl.Ex.new (o := HO.tup [V.int (1 + v1), V.int e]) nu
    have hu : upd H5 u (HO.tup [V.int (1 + v1), V.int e]) u = some (HO.tup [V.int (1 + v1), V.int e]) := upd_same
    generalize upd H5 u (HO.tup [V.int (1 + v1), V.int e]) = H6 at *
    have k36 : Tk t H3 H6 := (k4.trans k5).trans (Tk.of e6)
    have hp6 := k36 _ _ hp tp.symm
    repeat walk_at "mst"
    · rw [hc.1]; exact Nat.lt_of_le_of_lt (show _ ≤ 100 by omega) (by decide)
    have k7 : ∀ c o, H6 c = some o → c ≠ p → upd H6 p (HO.lst (xs ++ [V.ref u])) c = some o := fun c o z n => (upd_ne n).trans z
    have hp7 : upd H6 p (HO.lst (xs ++ [V.ref u])) p = some (HO.lst (xs ++ [V.ref u])) := upd_same
    have nup : u ≠ p := ne_of hu hp6 (by intro y; cases y)
    have hu7 : upd H6 p (HO.lst (xs ++ [V.ref u])) u = some (HO.tup [V.int (1 + v1), V.int e]) := k7 _ _ hu nup
    have kl : Kl H3 (upd H6 p (HO.lst (xs ++ [V.ref u]))) := fun c o z n => k7 _ _ (k36 _ _ z fun h => by
      obtain ⟨_, _, _, w⟩ := ht3
      rw [h, w] at z
      exact n _ (Option.some.inj z).symm) fun h => by
      rw [h, hp] at z
      exact n _ (Option.some.inj z).symm
    generalize upd H6 p (HO.lst (xs ++ [V.ref u])) = H7 at *
    refine ⟨fun c o z n => k7 _ _ (k36 _ _ (k3 _ _ z n) n) (ne_of_none z np), (ht5.ex e6).kp tp k7, ⟨xs ++ [.ref u], cs ++ [(1 + v1, e)], hp7, AllAt.app (hc.keep kl) (AllAt.one ⟨u, rfl, hu7⟩), by rw [List.length_append, lc]; rfl, fun c m => ?_⟩, _, rfl⟩
    rcases List.mem_append.mp m with m | m
    · exact bc c m
    · rw [List.mem_singleton] at m; rw [m]
      exact ⟨by show 1 ≤ 1 + v1; omega, by show 1 + v1 ≤ 2; omega, e1, e3⟩
  · rintro σ H3 ⟨k3, ht3, ⟨xs, cs, hp, hc, lc, bc⟩, x2, rfl⟩
    repeat walk_at "mst"
    have sq : ∀ c ∈ cs, c.1 * c.2 ≤ 6 := fun c m => by
      obtain ⟨h1, h2, h3, h4⟩ := bc c m
      have : c.1 = 1 ∨ c.1 = 2 := by omega
      rcases this with h | h <;> rw [h] <;> omega
    have ok : OkC cs := by
      refine ⟨fun c m => by obtain ⟨h1, h2, h3, h4⟩ := bc c m; exact ⟨h1, by omega, h3, by omega⟩, ?_⟩
      have l2 : cs.length ≤ 2 := by omega
      rcases cs with _ | ⟨c1, _ | ⟨c2, _ | ⟨c3, cs⟩⟩⟩
      · decide
      · have := sq c1 (by simp)
        rw [sqs_cons]; show _ + 0 ≤ _; omega
      · have := sq c1 (by simp)
        have := sq c2 (by simp)
        rw [sqs_cons, sqs_cons]; show _ + (_ + 0) ≤ _; omega
      · simp at l2
    refine mk_cb (k_sq hp) hc ok fun x H4 nx e4 hx => ?_
    repeat walk_at "mst"
    exact q _ H4 (_, _) (k3.trans (Tk.of e4)) (ht3.ex e4) ⟨x, rfl, .cakes hx ok⟩
def sp_check_row (K : PySem.W.Frag) : Sp := fun vs H Q E => ∃ (y : V) (p c : Int), vs = [y, .int p, .int c] ∧ ((∃ r, RoAt H y r ∧ AscF (p + 1) c r.1 ∧ AscF (p + 1) c r.2 ∧ Q .non H) ∨ (BadR K H wholeV p c y ∧ E (.ref (He.ga K "BadValue")) none H))
abbrev N_check_row : List Str := ["row", "at", "count", "places", "least", "place"]
def t_check_row (K : PySem.W.Frag) (E : XK) : TS := (tSeq (tIfS (tOr (tTest (tOp rNT (tCB (rTyp K) (tCons (tVar 0) tNil)) (tC (.ty "tuple")))) (tTest (tOp rNe (tCB (rLenQ K) (tCons (tVar 0) tNil)) (tC (.int 2))))) (tRaise E (.ref (He.ga K "BadValue"))) tNext) (tFor (iTup K (tVar 0)) (gName 3) (tSeq (tIfS (tTest (tOp rNT (tCB (rTyp K) (tCons (tVar 3) tNil)) (tC (.ty "tuple")))) (tRaise E (.ref (He.ga K "BadValue"))) tNext) (tSeq (tAsg (tOp rAddI (tVar 1) (tC (.int 1))) (gName 4)) (tFor (iTup K (tVar 3)) (gName 5) (tSeq (tIfS (tNot (tB (tCall (sp_is_whole K) [] E0 (tCons (tVar 5) (tCons (tVar 4) (tCons (tOp rSubI (tVar 2) (tC (.int 1))) tNil)))))) (tRaise E (.ref (He.ga K "BadValue"))) tNext) (tAsg (tOp rAddI (tVar 5) (tC (.int 1))) (gName 4))))))))
theorem len_check_row {K : PySem.W.Frag} {vs : List V} {H : Hp} {Q : VK} {E : XK} (h : sp_check_row K vs H Q E) : vs.length = 3 := by
  obtain ⟨_, _, _, rfl, _⟩ := h; rfl
theorem pure_check_row {K : PySem.W.Frag} (vs : List V) (H : Hp) (Q : VK) (E : XK) (h : sp_check_row K vs H Q E) : t_check_row K E { nx := fun _ H' => Q .non H', rt := Q } (start N_check_row vs) H := by
  obtain ⟨y, p, c, rfl, h⟩ := h
  unfold t_check_row
  have two : ∀ (a : Addr) (y1 y2 : V) (j0 : Nat), y = .ref a → H a = some (.tup [y1, y2]) → (∀ i < j0, ∃ y', [y1, y2][i]? = some y' ∧ ∃ g, GoAt H y' g ∧ AscF (p + 1) c g) → (j0 < 2 → ∃ y', [y1, y2][j0]? = some y' ∧ BadP K H wholeV p c y' ∧ E (.ref (He.ga K "BadValue")) none H) → (2 ≤ j0 → Q .non H) → t_check_row K E { nx := fun _ H' => Q .non H', rt := Q } (start N_check_row [y, .int p, .int c]) H := by
    rintro a y1 y2 j0 rfl ha good bad fin
    unfold t_check_row
    repeat walk_at "mst"
    refine ⟨_, "tuple", rfl, .tup (k_st ha), ?_⟩
    repeat walk_at "mst"
    refine k_NT ?_
    rw [decide_eq_true rfl]
    repeat walk_at "mst"
    refine k_iteD (fun z => absurd rfl z) (fun _ => ?_)
    repeat walk_at "mst"
    refine ⟨a, rfl, ⟨_, k_st ha⟩, forK_tup (xs := [y1, y2]) (fun i σ H' => H' = H ∧ i ≤ j0 ∧ ∃ x3 x4 x5 : Option V, σ = [some (.ref a), some (.int p), some (.int c), x3, x4, x5]) ⟨rfl, Nat.zero_le _, _, _, _, rfl⟩ ?_ ?_ ?_⟩
    · rintro i σ H' _ ⟨rfl, _⟩; exact k_st ha
    · rintro i x σ H' hx ⟨rfl, ij, x3, x4, x5, rfl⟩
      rcases Nat.lt_or_ge i j0 with l | l
      · obtain ⟨y', hy, g, ⟨u, rfl, hu⟩, as⟩ := good i l
        rw [hx] at hy
        injection hy with hy
        subst hy
        repeat walk_at "mst"
        refine ⟨_, "tuple", rfl, .tup (k_st hu), ?_⟩
        repeat walk_at "mst"
        refine k_NT ?_
        rw [decide_eq_true rfl]
        repeat walk_at "mst"
        refine ⟨u, rfl, ⟨_, k_st hu⟩, forK_tup (xs := g.map V.int) (fun j σ H'' => H'' = H' ∧ ∃ (le : Int) (x5 : Option V), AscF le c (g.drop j) ∧ σ = [some (.ref a), some (.int p), some (.int c), some (.ref u), some (.int le), x5]) ⟨rfl, _, _, by rw [List.drop_zero]; exact as, rfl⟩ ?_ ?_ ?_⟩
        · rintro j σ H'' _ ⟨rfl, _⟩; exact k_st hu
        · rintro j x σ H'' hx ⟨rfl, le, x5, af, rfl⟩
          obtain ⟨z, hz, rfl⟩ := get_int hx
          have hj := (List.getElem?_eq_some_iff.mp hz).1
          rw [List.drop_eq_getElem_cons hj, (List.getElem?_eq_some_iff.mp hz).2] at af
          obtain ⟨a1, a2, a3⟩ := af
          repeat walk_at "mst"
          refine ⟨⟨V.int z, "int", _, _, rfl, .int z⟩, ?_⟩
          rintro v H1 ⟨x', lo, hi, e, rfl, rfl⟩
          cases e
          repeat walk_at "mst"
          have e : wholeV (V.int z) le (c - 1) = true := by
            show (decide (le ≤ z) && decide (z ≤ c - 1)) = true
            rw [decide_eq_true a1, decide_eq_true a2]; rfl
          rw [e]
          repeat walk_at "mst"
          exact ⟨rfl, _, _, a3, rfl⟩
        · rintro σ H'' ⟨rfl, le, x5, _, rfl⟩
          exact ⟨rfl, l, _, _, _, rfl⟩
      · have ei : i = j0 := by omega
        subst ei
        have i2 : i < 2 := (List.getElem?_eq_some_iff.mp hx).1
        obtain ⟨y', hy, bp, r⟩ := bad i2
        rw [hx] at hy
        injection hy with hy
        subst hy
        rcases bp with ⟨T, t, n⟩ | ⟨u, xs, rfl, hu, bf⟩
        · repeat walk_at "mst"
          refine ⟨_, T, rfl, t, ?_⟩
          repeat walk_at "mst"
          refine k_NT ?_
          rw [decide_eq_false n]
          repeat walk_at "mst"
          exact r
        · repeat walk_at "mst"
          refine ⟨_, "tuple", rfl, .tup (k_st hu), ?_⟩
          repeat walk_at "mst"
          refine k_NT ?_
          rw [decide_eq_true rfl]
          repeat walk_at "mst"
          refine ⟨u, rfl, ⟨_, k_st hu⟩, forK_tup (xs := xs) (fun j σ H'' => H'' = H' ∧ ∃ (le : Int) (x5 : Option V), BadF K H' c wholeV le (xs.drop j) ∧ σ = [some (.ref a), some (.int p), some (.int c), some (.ref u), some (.int le), x5]) ⟨rfl, _, _, by rw [List.drop_zero]; exact bf, rfl⟩ ?_ ?_ ?_⟩
          · rintro j σ H'' _ ⟨rfl, _⟩; exact k_st hu
          · rintro j x σ H'' hx ⟨rfl, le, x5, af, rfl⟩
            have hj := (List.getElem?_eq_some_iff.mp hx).1
            rw [List.drop_eq_getElem_cons hj, (List.getElem?_eq_some_iff.mp hx).2] at af
            obtain ⟨⟨T, tT⟩, a3⟩ := af
            repeat walk_at "mst"
            refine ⟨⟨x, T, _, _, rfl, tT⟩, ?_⟩
            rintro v H1 ⟨x', lo, hi, e, rfl, rfl⟩
            cases e
            repeat walk_at "mst"
            rcases a3 with w | ⟨z, rfl, w, bf2⟩
            · rw [w]
              repeat walk_at "mst"
              exact r
            · rw [w]
              repeat walk_at "mst"
              exact ⟨rfl, _, _, bf2, rfl⟩
          · rintro σ H'' ⟨rfl, le, x5, af, rfl⟩
            rw [List.drop_eq_nil_of_le (Nat.le_refl _)] at af
            exact absurd af id
    · rintro σ H' ⟨rfl, ij, x3, x4, x5, rfl⟩
      exact fin ij
  rcases h with ⟨r, ⟨a, y1, y2, rfl, ha, g1, g2⟩, c1, c2, q⟩ | ⟨br, q⟩
  · refine two a y1 y2 2 rfl ha (fun i hi => ?_) (fun h => absurd h (by decide)) (fun _ => q)
    match i with
    | 0 => exact ⟨_, rfl, _, g1, c1⟩
    | 1 => exact ⟨_, rfl, _, g2, c2⟩
    | i + 2 => omega
  · rcases br with ⟨T, t, n⟩ | ⟨a, xs, rfl, ha, l2⟩ | ⟨a, y1, y2, rfl, ha, b1 | ⟨g, g1, c1, b2⟩⟩
    · repeat walk_at "mst"
      refine ⟨_, T, rfl, t, ?_⟩
      repeat walk_at "mst"
      refine k_NT ?_
      rw [decide_eq_false n]
      repeat walk_at "mst"
      exact q
    · repeat walk_at "mst"
      refine ⟨_, "tuple", rfl, .tup (k_st ha), ?_⟩
      repeat walk_at "mst"
      refine k_NT ?_
      rw [decide_eq_true rfl]
      repeat walk_at "mst"
      refine k_iteD (fun _ => ?_) (fun z => absurd (show ((xs.length : Nat) : Int) ≠ 2 by omega) z)
      repeat walk_at "mst"
      exact q
    · exact two a y1 y2 0 rfl ha (fun i hi => absurd hi (Nat.not_lt_zero _)) (fun _ => ⟨_, rfl, b1, q⟩) (fun h => absurd h (by decide))
    · refine two a y1 y2 1 rfl ha (fun i hi => ?_) (fun _ => ⟨_, rfl, b2, q⟩) (fun h => absurd h (by decide))
      have : i = 0 := by omega
      subst this
      exact ⟨_, rfl, g, g1, c1⟩
theorem use_check {K : PySem.W.Frag} {H : Hp} {Q : VK} {E : XK} {y : V} {p c : Int} (h : (∃ r, RoAt H y r ∧ AscF (p + 1) c r.1 ∧ AscF (p + 1) c r.2 ∧ Q .non H) ∨ (BadR K H wholeV p c y ∧ E (.ref (He.ga K "BadValue")) none H)) : sp_check_row K ([y, .int p, .int c] ++ []) H Q E := ⟨y, p, c, rfl, h⟩
def sp_Table_d_init (K : PySem.W.Frag) : Sp := fun vs H Q E => ∃ (p dx : Addr) (x pl : V), vs = [.ref p, x, pl] ∧ H p = some (.ins (He.ga K "Table") dx []) ∧ (
  (∃ a xs rs z, x = .ref a ∧ pl = .int z ∧ SqL K H a xs ∧ RsAt H xs rs ∧ OkRT rs ∧ 0 ≤ z ∧ z < rs.length ∧ ∀ t H', H t = none → (∀ c o, H c = some o → c ≠ p → H' c = some o) → H' t = some (.tup xs) → H' p = some (.ins (He.ga K "Table") dx (tfs t pl)) → Q .non H')
  ∨ (∃ T, TyB K H x T ∧ T ≠ "list" ∧ E (.ref (He.ga K "BadValue")) none H)
  ∨ (∃ a xs, x = .ref a ∧ SqL K H a xs ∧ (xs.length = 0 ∨ (40 < xs.length ∧ xs.length ≤ 1000)) ∧ E (.ref (He.ga K "BadValue")) none H)
  ∨ (∃ a xs i y, x = .ref a ∧ SqL K H a xs ∧ xs.length ≤ 40 ∧ xs[i]? = some y ∧ BadR K H wholeV (i : Nat) xs.length y ∧ (∀ (j : Nat) (y : V), j < i → xs[j]? = some y → ∃ r, RoAt H y r ∧ AscF ((j : Int) + 1) xs.length r.1 ∧ AscF ((j : Int) + 1) xs.length r.2) ∧ ∀ H', Ex H H' → E (.ref (He.ga K "BadValue")) none H')
  ∨ (∃ a xs rs T, x = .ref a ∧ SqL K H a xs ∧ RsAt H xs rs ∧ OkRT rs ∧ TyB K H pl T ∧ wholeV pl 0 (xs.length - 1) = false ∧ ∀ H', Ex H H' → E (.ref (He.ga K "BadValue")) none H'))
local macro_rules | `(tactic| walk_at "mst") => `(tactic| first
  | with_reducible refine k_enumL ?_)
theorem k_iteD' {p A B : Prop} [Decidable p] (h1 : p → A) (h2 : ¬ p → B) : if (!decide p) = true then B else A := by
  by_cases z : p
  · rw [decide_eq_true z]; exact h1 z
  · rw [decide_eq_false z]; exact h2 z
abbrev N_Table_d_init : List Str := ["self", "rows", "place", "at", "row"]
def t_Table_d_init (K : PySem.W.Frag) (E : XK) : TS := (tSeq (tIfS (tOr (tTest (tOp rNT (tCB (rTyp K) (tCons (tVar 1) tNil)) (tC (.ty "list")))) (tNot (tTest (tChain rLeI rLeI (tC (.int 1)) (tCB (rLenQ K) (tCons (tVar 1) tNil)) (tC (.int 40)))))) (tRaise E (.ref (He.ga K "BadValue"))) tNext) (tSeq (tFor (iEnum K (tCons (tVar 1) tNil)) (gTup K 2 (gCons (gName 3) (gCons (gName 4) gNil))) (tDrop (tCall (sp_check_row K) [] E (tCons (tVar 4) (tCons (tVar 3) (tCons (tCB (rLenQ K) (tCons (tVar 1) tNil)) tNil)))))) (tSeq (tIfS (tNot (tB (tCall (sp_is_whole K) [] E0 (tCons (tVar 2) (tCons (tC (.int 0)) (tCons (tOp rSubI (tCB (rLenQ K) (tCons (tVar 1) tNil)) (tC (.int 1))) tNil)))))) (tRaise E (.ref (He.ga K "BadValue"))) tNext) (tSeq (sFld K (tVar 0) (tCB (rTupL K) (tCons (tVar 1) tNil)) "_rows") (sFld K (tVar 0) (tVar 2) "_place")))))
theorem len_Table_d_init {K : PySem.W.Frag} {vs : List V} {H : Hp} {Q : VK} {E : XK} (h : sp_Table_d_init K vs H Q E) : vs.length = 3 := by
  obtain ⟨_, _, _, _, rfl, _⟩ := h; rfl
theorem pure_Table_d_init {K : PySem.W.Frag} (F : FTable K) (vs : List V) (H : Hp) (Q : VK) (E : XK) (h : sp_Table_d_init K vs H Q E) : t_Table_d_init K E { nx := fun _ H' => Q .non H', rt := Q } (start N_Table_d_init vs) H := by
  obtain ⟨p, dx, x, pl, rfl, hp, h⟩ := h
  have walk : ∀ (a : Addr) (xs : List V) (i0 : Nat), x = .ref a → SqL K H a xs → 1 ≤ xs.length → xs.length ≤ 40 → i0 ≤ xs.length →
      (∀ (j : Nat) (y : V), j < i0 → xs[j]? = some y → ∃ r, RoAt H y r ∧ AscF ((j : Int) + 1) xs.length r.1 ∧ AscF ((j : Int) + 1) xs.length r.2) →
      (i0 < xs.length → ∃ y, xs[i0]? = some y ∧ BadR K H wholeV (i0 : Nat) xs.length y ∧ ∀ H', Ex H H' → E (.ref (He.ga K "BadValue")) none H') →
      (i0 = xs.length → ∃ T, TyB K H pl T) →
      (i0 = xs.length → wholeV pl 0 (xs.length - 1) = false → ∀ H', Ex H H' → E (.ref (He.ga K "BadValue")) none H') →
      (i0 = xs.length → wholeV pl 0 (xs.length - 1) = true → ∀ t H', H t = none → (∀ c o, H c = some o → c ≠ p → H' c = some o) → H' t = some (.tup xs) → H' p = some (.ins (He.ga K "Table") dx (tfs t pl)) → Q .non H') →
      t_Table_d_init K E { nx := fun _ H' => Q .non H', rt := Q } (start N_Table_d_init [.ref p, x, pl]) H := by
    rintro a xs i0 rfl hS l1 l40 il good bad ty bp gp
    unfold t_Table_d_init
    repeat walk_at "mst"
    refine ⟨_, "list", rfl, .lst hS, ?_⟩
    repeat walk_at "mst"
    refine k_NT ?_
    rw [decide_eq_true rfl]
    repeat walk_at "mst"
    refine k_iteD (fun _ => ?_) (fun z => absurd (show (1 : Int) ≤ (xs.length : Nat) by omega) z)
    repeat walk_at "mst"
    refine k_iteD' (fun _ => ?_) (fun z => absurd (show ((xs.length : Nat) : Int) ≤ 40 by omega) z)
    repeat walk_at "mst"
    refine ⟨a, xs, rfl, hS, for_enumL (xs := xs) (fun i σ H' => Ex H H' ∧ i ≤ i0 ∧ ∃ x3 x4 : Option V, σ = [some (.ref p), some (.ref a), some pl, x3, x4]) ⟨Evl.Ex.refl _, Nat.zero_le _, _, _, rfl⟩ ?_ ?_ ?_⟩
    · rintro i σ H' _ ⟨e, _⟩; exact Evl.ex_l e hS
    · rintro i y σ H2 T hy ⟨e, ij, x3, x4, rfl⟩ hT
      have hi := (List.getElem?_eq_some_iff.mp hy).1
      have e2 : Ex H2 (upd H2 T (HO.tup [V.int (i : Int), y])) := Evl.Ex.new hT
      have sT : upd H2 T (HO.tup [V.int (i : Int), y]) T = some (HO.tup [V.int (i : Int), y]) := upd_same
      generalize upd H2 T (HO.tup [V.int (i : Int), y]) = H3 at *
      have e3 := e.trans e2
      have hS3 := Evl.ex_l e3 hS
      refine k_gtup (k_st sT) rfl ?_
      repeat walk_at "mst"
      rcases Nat.lt_or_ge i i0 with l | l
      · obtain ⟨r, hr, c1, c2⟩ := good i y l hy
        refine use_check (Or.inl ⟨r, hr.ex e3, c1, c2, ?_⟩)
        repeat walk_at "mst"
        exact ⟨e3, l, _, _, rfl⟩
      · have ei : i = i0 := by omega
        subst ei
        obtain ⟨y', hy', br, r⟩ := bad hi
        rw [hy] at hy'
        injection hy' with hy'
        subst hy'
        exact use_check (Or.inr ⟨br.ex e3, r _ e3⟩)
    · rintro σ H' ⟨e, ij, x3, x4, rfl⟩
      have ei : i0 = xs.length := by omega
      obtain ⟨U, tU⟩ := ty ei
      have hS' := Evl.ex_l e hS
      have hp' := e _ _ hp
      repeat walk_at "mst"
      refine ⟨⟨pl, U, _, _, rfl, TyB.ex tU e⟩, ?_⟩
      rintro v H1 ⟨x', lo, hi, e', rfl, rfl⟩
      cases e'
      repeat walk_at "mst"
      cases hw : wholeV pl 0 ((xs.length : Int) - 1)
      · repeat walk_at "mst"
        exact bp ei hw _ e
      · repeat walk_at "mst"
        refine fun t ht => ?_
        have npt : p ≠ t := ne_of_none hp' ht
        repeat walk_at "mst"
        refine ⟨p, _, dx, [], rfl, (upd_ne npt).trans hp', F.cl, F.nr, by show 0 < 1000; decide, ?_⟩
        repeat walk_at "mst"
        refine ⟨p, _, dx, _, rfl, upd_same, F.cl, F.np, by show 1 < 1000; decide, ?_⟩
        refine gp ei hw t _ (Evl.fresh_back e ht) (fun c o z y => ?_) ?_ upd_same
        · rw [upd_ne y, upd_ne y, upd_ne (ne_of_none (e _ _ z) ht)]; exact e _ _ z
        · rw [upd_ne npt.symm, upd_ne npt.symm, upd_same]
  rcases h with ⟨a, xs, rs, z, rfl, rfl, hS, R, ok, z0, z1, q⟩ | ⟨T, t, n, r⟩ | ⟨a, xs, rfl, hS, l, r⟩ | ⟨a, xs, i, y, rfl, hS, l40, hy, br, good, r⟩ | ⟨a, xs, rs, T, rfl, hS, R, ok, tT, w, r⟩
  · have l := R.1
    have o1 := ok.1
    have o2 := ok.2.1
    refine walk a xs xs.length rfl hS (by omega) (by omega) (Nat.le_refl _) (fun j y hj hy => ?_) (fun h => absurd h (Nat.lt_irrefl _)) (fun _ => ⟨_, .int z⟩) (fun _ h => ?_) (fun _ _ => q)
    · obtain ⟨y', h1, h2⟩ := R.2 j _ (List.getElem?_eq_getElem (by omega))
      rw [hy] at h1
      injection h1 with h1
      subst h1
      rw [l]
      exact ⟨_, h2, ok.2.2 j _ (List.getElem?_eq_getElem (by omega))⟩
    · have e : wholeV (V.int z) 0 ((xs.length : Int) - 1) = true := by
        show (decide (0 ≤ z) && decide (z ≤ (xs.length : Int) - 1)) = true
        rw [decide_eq_true z0, decide_eq_true (by omega)]; rfl
      rw [e] at h
      cases h
  · unfold t_Table_d_init
    repeat walk_at "mst"
    refine ⟨_, T, rfl, t, ?_⟩
    repeat walk_at "mst"
    refine k_NT ?_
    rw [decide_eq_false n]
    repeat walk_at "mst"
    exact r
  · unfold t_Table_d_init
    repeat walk_at "mst"
    refine ⟨_, "list", rfl, .lst hS, ?_⟩
    repeat walk_at "mst"
    refine k_NT ?_
    rw [decide_eq_true rfl]
    repeat walk_at "mst"
    refine k_iteD (fun z => ?_) (fun z => ?_)
    · repeat walk_at "mst"
      refine k_iteD' (fun z2 => ?_) (fun z2 => ?_)
      · omega
      · repeat walk_at "mst"
        exact r
    · repeat walk_at "mst"
      exact r
  · have hi := (List.getElem?_eq_some_iff.mp hy).1
    exact walk a xs i rfl hS (by omega) l40 (by omega) good (fun _ => ⟨y, hy, br, r⟩) (fun h => by omega) (fun h => by omega) (fun h => by omega)
  · have l := R.1
    have o1 := ok.1
    have o2 := ok.2.1
    refine walk a xs xs.length rfl hS (by omega) (by omega) (Nat.le_refl _) (fun j y hj hy => ?_) (fun h => absurd h (Nat.lt_irrefl _)) (fun _ => ⟨_, tT⟩) (fun _ _ => r) (fun _ h => by rw [w] at h; cases h)
    obtain ⟨y', h1, h2⟩ := R.2 j _ (List.getElem?_eq_getElem (by omega))
    rw [hy] at h1
    injection h1 with h1
    subst h1
    rw [l]
    exact ⟨_, h2, ok.2.2 j _ (List.getElem?_eq_getElem (by omega))⟩
/-- a table is made -/
theorem mk_tb {K : PySem.W.Frag} {H : Hp} {Q : Addr → Hp → Prop} {E : XK} {a : Addr} {xs : List V} {rs : List RowG} {z : Int} (hS : SqL K H a xs) (R : RsAt H xs rs) (ok : OkRT rs) (z0 : 0 ≤ z) (z1 : z < rs.length) (k : ∀ x H', H x = none → Ex H H' → TbAt K H' x xs (.int z) → Q x H') :
    ∀ x dx, H x = none → H dx = none → dx ≠ x → sp_Table_d_init K (.ref x :: ([.ref a, .int z] ++ [])) (upd (upd H dx (.own x)) x (.ins (He.ga K "Table") dx [])) (fun v H2 => v = .non ∧ Q x H2) E := by
  intro x dx hx hd hne
  have e : Ex H (upd (upd H dx (.own x)) x (.ins (He.ga K "Table") dx [])) := (Evl.Ex.new hd).trans (Evl.Ex.new (by rw [upd_ne hne.symm]; exact hx))
  exact ⟨x, dx, _, _, rfl, upd_same, Or.inl ⟨a, xs, rs, z, rfl, rfl, Evl.ex_l e hS, R.ex e, ok, z0, z1, fun t H' ht kp h1 h2 => ⟨rfl, k x H' hx (fun c o z => kp c o (e _ _ z) (ne_of_none z hx)) ⟨dx, t, h2, h1⟩⟩⟩⟩
local macro_rules | `(tactic| walk_at "new") => `(tactic| ((first | refine ⟨fits (Nat.le_of_ble_eq_true rfl), ?_⟩ | skip); intro p np; generalize hq : upd _ p _ = H1; have e1 := nx np hq; have s1 := nS hq; clear hq))
theorem AscF.snoc : ∀ {g : List Int} {a c z : Int}, AscF a c g → (∀ x ∈ g, x < z) → a ≤ z → z ≤ c - 1 → AscF a c (g ++ [z])
  | [], _, _, _, _, _, h1, h2 => ⟨h1, h2, trivial⟩
  | y :: r, a, c, z, h, hl, _, h2 => ⟨h.1, h.2.1, AscF.snoc h.2.2 (fun x m => hl x (List.mem_cons_of_mem _ m)) (by have := hl y List.mem_cons_self; omega) h2⟩
def sp_law_table (K : PySem.W.Frag) : Sp := sp_bd K
abbrev N_law_table : List Str := ["tape", "many", "rows", "k", "sides", "side", "goal"]
def t_law_table (K : PySem.W.Frag) (E : XK) : TS := (tSeq (tAsg (tOp rAddI (tC (.int 1)) (tCall (sp_law_draw K) [] E0 (tCons (tVar 0) (tCons (tC (.int 6)) tNil)))) (gName 1)) (tSeq (tAsg (tLst tNil) (gName 2)) (tSeq (tFor (iRng1 (tCons (tVar 1) tNil)) (gName 3) (tSeq (tAsg (tLst tNil) (gName 4)) (tSeq (tFor (iRng1 (tCons (tC (.int 2)) tNil)) (gName 5) (tDrop (tBM K "list" rAppend (tVar 4) (tCons (tCB (rTupL K) (tCons (tLc (iRng2 (tCons (tOp rAddI (tVar 3) (tC (.int 1))) (tCons (tVar 1) tNil))) (gName 6) (tTest (tOp rEq (tCall (sp_law_draw K) [] E0 (tCons (tVar 0) (tCons (tC (.int 3)) tNil))) (tC (.int 0)))) (tVar 6) [6]) tNil)) tNil)))) (tDrop (tBM K "list" rAppend (tVar 2) (tCons (tTup (tCons (tOp (rIxL K) (tVar 4) (tC (.int 0))) (tCons (tOp (rIxL K) (tVar 4) (tC (.int 1))) tNil))) tNil)))))) (tRet (tMake (He.ga K "Table") (sp_Table_d_init K) [] E0 (tCons (tVar 2) (tCons (tCall (sp_law_draw K) [] E0 (tCons (tVar 0) (tCons (tVar 1) tNil))) tNil)))))))
theorem len_law_table {K : PySem.W.Frag} {vs : List V} {H : Hp} {Q : VK} {E : XK} (h : sp_law_table K vs H Q E) : vs.length = 1 := by
  obtain ⟨_, rfl, _⟩ := h; rfl
theorem pure_law_table {K : PySem.W.Frag} (vs : List V) (H : Hp) (Q : VK) (E : XK) (h : sp_law_table K vs H Q E) : t_law_table K E { nx := fun _ H' => Q .non H', rt := Q } (start N_law_table vs) H := by
  obtain ⟨t, rfl, ht, q⟩ := h
  unfold t_law_table
  repeat walk_at "mst"
  refine use_draw (n := 6) ht (by decide) (by decide) fun m H1 m0 m1 k1 ht1 => ?_
  obtain ⟨m, rfl⟩ : ∃ m' : Nat, m = m' := ⟨m.toNat, by omega⟩
  repeat walk_at "mst"
  walk_at "new"; rename_i p np H2 e2 s2
  have tp := ht1.ne np
  have npH : ∀ c o, H c = some o → c ≠ t → c ≠ p := fun c o z n => ne_of_none (k1 _ _ z n) np
  have k02 : Tk t H H2 := k1.trans (Tk.of e2)
  have ht2 := ht1.ex e2
  repeat walk_at "mst"
  refine ⟨_, rfl, by omega, by omega, ?_⟩
  refine forK_range (n := (1 + (m : Int)).toNat) (fun k σ H' => Tk t H H' ∧ TapeAt H' t ∧ (∃ (xs : List V) (rs : List RowG), H' p = some (.lst xs) ∧ RsAt H' xs rs ∧ rs.length = k ∧ ∀ (i : Nat) (r : RowG), rs[i]? = some r → AscF ((i : Int) + 1) (1 + (m : Int)) r.1 ∧ AscF ((i : Int) + 1) (1 + (m : Int)) r.2) ∧ ∃ x3 x4 x5 : Option V, σ = [some (.ref t), some (.int (1 + (m : Int))), some (.ref p), x3, x4, x5, none]) ⟨k02, ht2, ⟨[], [], s2, ⟨rfl, fun i r h => by simp at h⟩, rfl, fun i r h => by simp at h⟩, _, _, _, rfl⟩ ?_ ?_
  · rintro k σ H3 hk ⟨k3, ht3, ⟨xs, rs, hp, hc, lc, bc⟩, x3, x4, x5, rfl⟩
    repeat walk_at "mst"
    walk_at "new"; rename_i l nl H4 e4 s4
    have tl := ht3.ne nl
    have lp : l ≠ p := (ne_of_none hp nl).symm
    repeat walk_at "mst"
    refine ⟨2, rfl, by decide, by decide, ?_⟩
    refine forK_range (n := 2) (fun j σ H' => (∀ c o, H3 c = some o → c ≠ t → H' c = some o) ∧ TapeAt H' t ∧ (∃ (ys : List V) (gs : List (List Int)), H' l = some (.lst ys) ∧ AllAt GoAt H' ys gs ∧ gs.length = j ∧ ∀ g ∈ gs, AscF ((k : Int) + 1) (1 + (m : Int)) g) ∧ ∃ x5 : Option V, σ = [some (.ref t), some (.int (1 + (m : Int))), some (.ref p), some (.int (k : Int)), some (.ref l), x5, none]) ⟨fun c o z _ => e4 c o z, ht3.ex e4, ⟨[], [], s4, AllAt.nil, rfl, fun g m => nomatch m⟩, _, rfl⟩ ?_ ?_
    · rintro j σ H5 hj ⟨k5, ht5, ⟨ys, gs, hl, hg, lg, bg⟩, x5, rfl⟩
      repeat walk_at "mst"
      refine ⟨_, _, rfl, ⟨by omega, by omega, by omega, by omega⟩, ?_⟩
      refine lcR_rts (lo := (k : Int) + 1) (n := (1 + (m : Int) - ((k : Int) + 1)).toNat) (fun i acc H' => Tk t H5 H' ∧ TapeAt H' t ∧ ∃ g : List Int, acc = g.map V.int ∧ AscF ((k : Int) + 1) (1 + (m : Int)) g ∧ ∀ x ∈ g, x < (k : Int) + 1 + (i : Int)) (fits' (by omega)) ?_ (fun D hD => ⟨Tk.of (Evl.Ex.new hD), ht5.ex (Evl.Ex.new hD), [], rfl, trivial, fun z m => nomatch m⟩) ?_ ?_
      · rintro D i acc zs H6 H7 hD hd kp ⟨a, b, c⟩
        exact ⟨a.mu hD kp, b.kp (ht5.ne hD) kp, c⟩
      · rintro i acc H6 D zs hD hd hi ⟨a, b, g, rfl, ag, lg2⟩ R r
        repeat walk_at "mst"
        refine use_draw (n := 3) b (by decide) (by decide) fun v H7 v0 v1 k7 t7 => ?_
        repeat walk_at "mst"
        refine r _ H7 (k7 _ _ hd (ht5.ne hD).symm) ⟨a.trans k7, t7, ?_⟩
        by_cases hv : v = 0
        · rw [if_pos (decide_eq_true hv)]
          refine ⟨g ++ [(k : Int) + 1 + (i : Int)], by rw [List.map_append]; rfl, ag.snoc lg2 (by omega) (by omega), fun x mx => ?_⟩
          rcases List.mem_append.mp mx with mx | mx
          · have := lg2 x mx; omega
          · rw [List.mem_singleton] at mx; omega
        · rw [if_neg (by rw [decide_eq_false hv]; decide)]
          exact ⟨g, rfl, ag, fun x mx => by have := lg2 x mx; omega⟩
      · rintro D acc H6 hD la hd ⟨a, b, g, rfl, ag, lg2⟩
        repeat walk_at "mst"
        walk_at "new"; rename_i u nu H7 e7 s7
        have kl6 := a _ _ hl tl.symm
        have hl7 := e7 _ _ kl6
        repeat walk_at "mst"
        · rw [hg.1]; exact Nat.lt_of_le_of_lt (show _ ≤ 100 by omega) (by decide)
        have k8 : ∀ c o, H7 c = some o → c ≠ l → upd H7 l (HO.lst (ys ++ [V.ref u])) c = some o := fun c o z n => (upd_ne n).trans z
        have hl8 : upd H7 l (HO.lst (ys ++ [V.ref u])) l = some (HO.lst (ys ++ [V.ref u])) := upd_same
        have hu8 := k8 _ _ s7 (ne_of s7 hl7 (by intro y; cases y))
        have kl : Kl H5 (upd H7 l (HO.lst (ys ++ [V.ref u]))) := fun c o z n => k8 _ _ (e7 _ _ (a _ _ z fun h => by
          obtain ⟨_, _, _, w⟩ := ht5
          rw [h, w] at z
          exact n _ (Option.some.inj z).symm)) fun h => by
          rw [h, hl] at z
          exact n _ (Option.some.inj z).symm
        generalize upd H7 l (HO.lst (ys ++ [V.ref u])) = H8 at *
        refine ⟨fun c o z n => k8 _ _ (e7 _ _ (a _ _ (k5 _ _ z n) n)) (ne_of_none z nl), (b.ex e7).kp tl k8, ⟨ys ++ [.ref u], gs ++ [g], hl8, AllAt.app (hg.imp fun y c q => q.keep kl) (AllAt.one ⟨u, rfl, hu8⟩), by rw [List.length_append, lg]; rfl, fun g' mg => ?_⟩, _, rfl⟩
        rcases List.mem_append.mp mg with mg | mg
        · exact bg g' mg
        · rw [List.mem_singleton] at mg; rw [mg]; exact ag
    · rintro σ H5 ⟨k5, ht5, ⟨ys, gs, hl, hg, lg, bg⟩, x5, rfl⟩
      rcases gs with _ | ⟨g1, _ | ⟨g2, _ | ⟨g3, gs⟩⟩⟩
      · simp at lg
      · simp at lg
      · obtain ⟨ly, hy⟩ := hg
        obtain ⟨y1, hy1, G1⟩ := hy 0 g1 rfl
        obtain ⟨y2, hy2, G2⟩ := hy 1 g2 rfl
        have hp5 := k5 _ _ hp tp.symm
        repeat walk_at "mst"
        refine k_ixL (k_sq hl) (atI_nat (j := 0) hy1) ?_
        repeat walk_at "mst"
        refine k_ixL (k_sq hl) (atI_nat (j := 1) hy2) ?_
        repeat walk_at "mst"
        refine ⟨by show 2 ≤ sizeLine; decide, fun u nu => ?_⟩
        have e6 := Evl.Ex.new (o := HO.tup [y1, y2]) nu
        have hu : upd H5 u (HO.tup [y1, y2]) u = some (HO.tup [y1, y2]) := upd_same
        generalize upd H5 u (HO.tup [y1, y2]) = H6 at *
        have hp6 := e6 _ _ hp5
        repeat walk_at "mst"
        · rw [hc.1]; exact Nat.lt_of_le_of_lt (show _ ≤ 100 by omega) (by decide)
        have k7 : ∀ c o, H6 c = some o → c ≠ p → upd H6 p (HO.lst (xs ++ [V.ref u])) c = some o := fun c o z n => (upd_ne n).trans z
        have hp7 : upd H6 p (HO.lst (xs ++ [V.ref u])) p = some (HO.lst (xs ++ [V.ref u])) := upd_same
        have hu7 := k7 _ _ hu (ne_of hu hp6 (by intro y; cases y))
        have klA : Kl H5 (upd H6 p (HO.lst (xs ++ [V.ref u]))) := (Kl.of e6).trans (Kl.set hp6 k7)
        have klB : Kl H3 (upd H6 p (HO.lst (xs ++ [V.ref u]))) := fun c o z n => klA _ _ (k5 _ _ z fun h => by
          obtain ⟨_, _, _, w⟩ := ht3
          rw [h, w] at z
          exact n _ (Option.some.inj z).symm) n
        generalize upd H6 p (HO.lst (xs ++ [V.ref u])) = H7 at *
        have rowA : RoAt H7 (.ref u) (g1, g2) := ⟨u, y1, y2, rfl, hu7, G1.keep klA, G2.keep klA⟩
        refine ⟨fun c o z n => k7 _ _ (e6 _ _ (k5 _ _ (k3 _ _ z n) n)) (npH c o z n), (ht5.ex e6).kp tp k7, ⟨xs ++ [.ref u], rs ++ [(g1, g2)], hp7, AllAt.app (hc.keep klB) (AllAt.one rowA), by rw [List.length_append, lc]; rfl, fun i r hr => ?_⟩, _, _, _, rfl⟩
        rcases get_snoc2 hr with hr | ⟨rfl, rfl⟩
        · exact bc i r hr
        · rw [lc]
          exact ⟨bg g1 (by simp), bg g2 (by simp)⟩
      · simp at lg
  · rintro σ H3 ⟨k3, ht3, ⟨xs, rs, hp, hc, lc, bc⟩, x3, x4, x5, rfl⟩
    repeat walk_at "mst"
    refine use_draw (n := 1 + (m : Int)) ht3 (by omega) (by omega) fun z H4 z0 z1 k4 ht4 => ?_
    have hp4 := k4 _ _ hp tp.symm
    have hc4 : RsAt H4 xs rs := hc.keep fun c o w n => k4 _ _ w fun h => by
      obtain ⟨_, _, _, w2⟩ := ht3
      rw [h, w2] at w
      exact n _ (Option.some.inj w).symm
    have lcz : (rs.length : Int) = 1 + (m : Int) := by omega
    have ok : OkRT rs := ⟨by omega, by omega, fun i r hr => by rw [lcz]; exact bc i r hr⟩
    obtain ⟨z, rfl⟩ : ∃ z' : Nat, z = z' := ⟨z.toNat, by omega⟩
    repeat walk_at "mst"
    refine mk_tb (k_sq hp4) hc4 ok (by omega) (by omega) fun x H5 nx e5 hx => ?_
    repeat walk_at "mst"
    obtain ⟨r, hr⟩ : ∃ r, rs[z]? = some r := ⟨_, List.getElem?_eq_getElem (by omega)⟩
    exact q _ H5 (_, _) (k3.trans (k4.trans (Tk.of e5))) (ht4.ex e5) ⟨x, rfl, .table hx (hc4.ex e5) ok hr⟩
def sp_law_board (K : PySem.W.Frag) : Sp := sp_bd K
abbrev N_law_board : List Str := ["tape", "kind"]
def t_law_board (K : PySem.W.Frag) (E : XK) : TS := (tSeq (tAsg (tCall (sp_law_draw K) [] E0 (tCons (tVar 0) (tCons (tC (.int 6)) tNil))) (gName 1)) (tSeq (tIfS (tTest (tOp rEq (tVar 1) (tC (.int 0)))) (tRet (tCall (sp_law_heaps K) [] E0 (tCons (tVar 0) tNil))) tNext) (tSeq (tIfS (tTest (tOp rEq (tVar 1) (tC (.int 1)))) (tRet (tCall (sp_law_hedge K) [] E0 (tCons (tVar 0) tNil))) tNext) (tSeq (tIfS (tTest (tOp rEq (tVar 1) (tC (.int 2)))) (tRet (tCall (sp_law_floor K) [] E0 (tCons (tVar 0) tNil))) tNext) (tSeq (tIfS (tTest (tOp rEq (tVar 1) (tC (.int 3)))) (tRet (tCall (sp_law_frogs K) [] E0 (tCons (tVar 0) tNil))) tNext) (tSeq (tIfS (tTest (tOp rEq (tVar 1) (tC (.int 4)))) (tRet (tCall (sp_law_cakes K) [] E0 (tCons (tVar 0) tNil))) tNext) (tRet (tCall (sp_law_table K) [] E0 (tCons (tVar 0) tNil)))))))))
theorem len_law_board {K : PySem.W.Frag} {vs : List V} {H : Hp} {Q : VK} {E : XK} (h : sp_law_board K vs H Q E) : vs.length = 1 := by
  obtain ⟨_, rfl, _⟩ := h; rfl
theorem pure_law_board {K : PySem.W.Frag} (vs : List V) (H : Hp) (Q : VK) (E : XK) (h : sp_law_board K vs H Q E) : t_law_board K E { nx := fun _ H' => Q .non H', rt := Q } (start N_law_board vs) H := by
  obtain ⟨t, rfl, ht, q⟩ := h
  unfold t_law_board
  repeat walk_at "mst"
  refine use_draw (n := 6) ht (by decide) (by decide) fun r H1 r0 r1 k1 ht1 => ?_
  have fin : ∀ f, (sp_bd K : Sp) = f → f ([.ref t] ++ []) H1 Q E0 := fun f e => by
    rw [← e]
    exact ⟨t, rfl, ht1, fun y H' g k tp b => q y H' g (k1.trans k) tp b⟩
  repeat walk_at "mst"
  refine k_iteD (fun _ => ?_) (fun _ => ?_)
  · repeat walk_at "mst"
    exact fin _ rfl
  repeat walk_at "mst"
  refine k_iteD (fun _ => ?_) (fun _ => ?_)
  · repeat walk_at "mst"
    exact fin _ rfl
  repeat walk_at "mst"
  refine k_iteD (fun _ => ?_) (fun _ => ?_)
  · repeat walk_at "mst"
    exact fin _ rfl
  repeat walk_at "mst"
  refine k_iteD (fun _ => ?_) (fun _ => ?_)
  · repeat walk_at "mst"
    exact fin _ rfl
  repeat walk_at "mst"
  refine k_iteD (fun _ => ?_) (fun _ => ?_)
  · repeat walk_at "mst"
    exact fin _ rfl
  repeat walk_at "mst"
  exact fin _ rfl
theorem use_board {K : PySem.W.Frag} {H : Hp} {Q : VK} {E : XK} {t : Addr} (ht : TapeAt H t) (q : ∀ y H' g, Tk t H H' → TapeAt H' t → BdV K H' y g → Q y H') : sp_law_board K ([.ref t] ++ []) H Q E := ⟨t, rfl, ht, q⟩
structure FMatch (K : PySem.W.Frag) : Prop where
  cl : Cls K (He.ga K "Match")
  nf : NoAttr K (He.ga K "Match") "_first"
  ni : NoAttr K (He.ga K "Match") "_indexes"
  nm : NoAttr K (He.ga K "Match") "_meetings"
structure FSIDES (K : PySem.W.Frag) : Prop where
  tu : ∀ H, SqT K H (He.ga K "SIDES") [V.str "left", V.str "right"]
def mafs (s : Str) (lm li : Addr) : List (Str × V) := putF "_indexes" (.ref li) (putF "_meetings" (.ref lm) (putF "_first" (.str s) []))
theorem mafs_i (s : Str) (lm li : Addr) : (mafs s lm li).lookup ("_indexes" : Str) = some (.ref li) := by
  unfold mafs
  rw [lookup_putF, if_pos rfl]
theorem mafs_m (s : Str) (lm li : Addr) : (mafs s lm li).lookup ("_meetings" : Str) = some (.ref lm) := by
  unfold mafs
  rw [lookup_putF, if_neg (by decide +kernel), lookup_putF, if_pos rfl]
theorem mafs_f (s : Str) (lm li : Addr) : (mafs s lm li).lookup ("_first" : Str) = some (.str s) := by
  unfold mafs
  rw [lookup_putF, if_neg (by decide +kernel), lookup_putF, if_neg (by decide +kernel), lookup_putF, if_pos rfl]
theorem mafs_no (s : Str) (lm li : Addr) {m : Str} (h1 : ¬ m = "_indexes") (h2 : ¬ m = "_meetings") (h3 : ¬ m = "_first") : (mafs s lm li).lookup m = none := by
  unfold mafs
  rw [lookup_putF, if_neg h1, lookup_putF, if_neg h2, lookup_putF, if_neg h3]; rfl
/-- a meeting with these boards -/
def MtS (K : PySem.W.Frag) (H : Hp) (y : V) (gs : List BSt) : Prop := ∃ mt ys, y = .ref mt ∧ MtAt K H mt ys ∧ BsS K H ys gs ∧ ys.length ≤ 8
theorem MtS.kl {K : PySem.W.Frag} {H H' : Hp} {y : V} {gs : List BSt} (h : MtS K H y gs) (k : Kl H H') : MtS K H' y gs := let ⟨mt, ys, r, a, b, l⟩ := h; ⟨mt, ys, r, a.kl k, b.kl k, l⟩
/-- a match: the meetings that stood, the indexes of the moves -/
structure MaS (K : PySem.W.Frag) (a dx : Addr) (s : Str) (lm li : Addr) (GS : List (List BSt)) (ns : List Int) (H : Hp) : Prop where
  ins : H a = some (.ins (He.ga K "Match") dx (mafs s lm li))
  hm : ∃ ms, H lm = some (.lst ms) ∧ AllAt (MtS K) H ms GS
  hi : H li = some (.lst (ns.map V.int))
  len : GS.length = ns.length + 1
  fs : s = "left" ∨ s = "right"
  ne : lm ≠ li
  few : ns.length ≤ 1000
theorem MaS.ex {K : PySem.W.Frag} {a dx : Addr} {s : Str} {lm li : Addr} {GS : List (List BSt)} {ns : List Int} {H H' : Hp} (h : MaS K a dx s lm li GS ns H) (e : Ex H H') : MaS K a dx s lm li GS ns H' :=
  ⟨e _ _ h.ins, let ⟨ms, z, r⟩ := h.hm; ⟨ms, e _ _ z, r.imp fun y c q => q.kl (Kl.of e)⟩, e _ _ h.hi, h.len, h.fs, h.ne, h.few⟩
/-- other lists change -/
theorem MaS.kl {K : PySem.W.Frag} {a dx : Addr} {s : Str} {lm li : Addr} {GS : List (List BSt)} {ns : List Int} {H H' : Hp} (h : MaS K a dx s lm li GS ns H) (k : Kl H H') (k1 : ∀ o, H lm = some o → H' lm = some o) (k2 : ∀ o, H li = some o → H' li = some o) : MaS K a dx s lm li GS ns H' :=
  ⟨k _ _ h.ins (fun ys z => by cases z), let ⟨ms, z, r⟩ := h.hm; ⟨ms, k1 _ z, r.imp fun y c q => q.kl k⟩, k2 _ h.hi, h.len, h.fs, h.ne, h.few⟩
/-- the side whose turn it is -/
def othS (s : Str) : Str := if s = "left" then "right" else "left"
def turS (s : Str) (n : Nat) : Str := if n % 2 = 0 then s else othS s
theorem turS_or {s : Str} (h : s = "left" ∨ s = "right") (n : Nat) : turS s n = "left" ∨ turS s n = "right" := by
  unfold turS othS
  split
  · exact h
  · split
    · exact Or.inr rfl
    · exact Or.inl rfl
theorem bitAnd1 (n : Nat) : Builtin.bitAnd (n : Int) 1 = ((n % 2 : Nat) : Int) := by
  show Int.ofNat (n &&& 1) = _
  rw [Nat.and_one_is_mod]; rfl
theorem k_sides {K : PySem.W.Frag} {H : Hp} {Q : VK} (F : FSIDES K) {s : Str} (q : Q (.bl (!(decide ("left" = s) || decide ("right" = s)))) H) : rIn K true (.str s) (.ref (He.ga K "SIDES")) H Q := by
  refine ⟨_, _, rfl, Or.inr (F.tu H), rfl, rfl, ?_⟩
  have e : inV (V.str s) [V.str "left", V.str "right"] = (decide ("left" = s) || decide ("right" = s)) := by
    show (eqV (V.str "left") (V.str s) || (eqV (V.str "right") (V.str s) || false)) = _
    rw [Bool.or_false]; rfl
  rw [if_pos rfl, e]
  exact q
def sp_Match_d_init (K : PySem.W.Frag) : Sp := fun vs H Q E => ∃ (p dx : Addr) (y : V) (s : Str), vs = [.ref p, y, .str s] ∧ H p = some (.ins (He.ga K "Match") dx []) ∧ (
  ((s = "left" ∨ s = "right") ∧ ∀ lm li H', H lm = none → H li = none → lm ≠ li → (∀ c o, H c = some o → c ≠ p → H' c = some o) → H' lm = some (.lst [y]) → H' li = some (.lst []) → H' p = some (.ins (He.ga K "Match") dx (mafs s lm li)) → Q .non H')
  ∨ (¬ (s = "left" ∨ s = "right") ∧ E (.ref (He.ga K "BadValue")) none H))
abbrev N_Match_d_init : List Str := ["self", "meeting", "first"]
def t_Match_d_init (K : PySem.W.Frag) (E : XK) : TS := (tSeq (tIfS (tOr (tTest (tOp rNT (tCB (rTyp K) (tCons (tVar 2) tNil)) (tC (.ty "str")))) (tTest (tOp (rIn K true) (tVar 2) (tC (.ref (He.ga K "SIDES")))))) (tRaise E (.ref (He.ga K "BadValue"))) tNext) (tSeq (sFld K (tVar 0) (tVar 2) "_first") (tSeq (sFld K (tVar 0) (tLst (tCons (tVar 1) tNil)) "_meetings") (sFld K (tVar 0) (tLst tNil) "_indexes"))))
theorem len_Match_d_init {K : PySem.W.Frag} {vs : List V} {H : Hp} {Q : VK} {E : XK} (h : sp_Match_d_init K vs H Q E) : vs.length = 3 := by
  obtain ⟨_, _, _, _, rfl, _⟩ := h; rfl
theorem pure_Match_d_init {K : PySem.W.Frag} (F : FMatch K) (G : FSIDES K) (vs : List V) (H : Hp) (Q : VK) (E : XK) (h : sp_Match_d_init K vs H Q E) : t_Match_d_init K E { nx := fun _ H' => Q .non H', rt := Q } (start N_Match_d_init vs) H := by
  obtain ⟨p, dx, y, s, rfl, hp, h⟩ := h
  unfold t_Match_d_init
  repeat walk_at "mst"
  refine ⟨_, "str", rfl, .str _, ?_⟩
  repeat walk_at "mst"
  refine ⟨_, _, rfl, rfl, ?_⟩
  rw [decide_eq_true rfl]
  repeat walk_at "mst"
  refine k_sides G ?_
  rcases h with ⟨hs, q⟩ | ⟨hs, r⟩
  · have e : (!(decide (("left" : Str) = s) || decide (("right" : Str) = s))) = false := by
      rcases hs with rfl | rfl <;> decide +kernel
    rw [e]
    repeat walk_at "mst"
    refine ⟨p, _, dx, [], rfl, hp, F.cl, F.nf, by show 0 < 1000; decide, ?_⟩
    have k1 : ∀ c o, H c = some o → c ≠ p → upd H p (HO.ins (He.ga K "Match") dx (putF "_first" (V.str s) [])) c = some o := fun c o z n => (upd_ne n).trans z
    have s1 : upd H p (HO.ins (He.ga K "Match") dx (putF "_first" (V.str s) [])) p = some _ := upd_same
    generalize upd H p (HO.ins (He.ga K "Match") dx (putF "_first" (V.str s) [])) = H1 at *
    repeat walk_at "mst"
    refine ⟨by show 1 ≤ sizeLine; decide, fun lm nlm => ?_⟩
    have e2 := Evl.Ex.new (o := HO.lst [y]) nlm
    have s2 : upd H1 lm (HO.lst [y]) lm = some (HO.lst [y]) := upd_same
    generalize upd H1 lm (HO.lst [y]) = H2 at *
    have p2 := e2 _ _ s1
    have nlp : lm ≠ p := (ne_of_none s1 nlm).symm
    repeat walk_at "mst"
    refine ⟨p, _, dx, _, rfl, p2, F.cl, F.nm, by show 1 < 1000; decide, ?_⟩
    have k3 : ∀ c o, H2 c = some o → c ≠ p → upd H2 p (HO.ins (He.ga K "Match") dx (putF "_meetings" (V.ref lm) (putF "_first" (V.str s) []))) c = some o := fun c o z n => (upd_ne n).trans z
    have s3 : upd H2 p (HO.ins (He.ga K "Match") dx (putF "_meetings" (V.ref lm) (putF "_first" (V.str s) []))) p = some _ := upd_same
    generalize upd H2 p (HO.ins (He.ga K "Match") dx (putF "_meetings" (V.ref lm) (putF "_first" (V.str s) []))) = H3 at *
    have hl3 := k3 _ _ s2 nlp
    repeat walk_at "mst"
    refine ⟨by show 0 ≤ sizeLine; decide, fun li nli => ?_⟩
    have e4 := Evl.Ex.new (o := HO.lst []) nli
    have s4 : upd H3 li (HO.lst []) li = some (HO.lst []) := upd_same
    generalize upd H3 li (HO.lst []) = H4 at *
    have p4 := e4 _ _ s3
    have nip : li ≠ p := (ne_of_none s3 nli).symm
    have nml : lm ≠ li := ne_of_none hl3 nli
    repeat walk_at "mst"
    refine ⟨p, _, dx, _, rfl, p4, F.cl, F.ni, by show 2 < 1000; decide, ?_⟩
    have back : ∀ c, H3 c = none → c ≠ p → H c = none := fun c z n => by
      cases hc : H c with
      | none => rfl
      | some o => rw [k3 _ _ (e2 _ _ (k1 _ _ hc n)) n] at z; cases z
    have nlmH : H lm = none := by
      cases hc : H lm with
      | none => rfl
      | some o => rw [k1 _ _ hc nlp] at nlm; cases nlm
    refine q lm li _ nlmH (back _ nli nip) nml (fun c o z n => (upd_ne n).trans (e4 _ _ (k3 _ _ (e2 _ _ (k1 _ _ z n)) n))) ((upd_ne nlp).trans (e4 _ _ hl3)) ((upd_ne nip).trans s4) upd_same
  · have e : (!(decide (("left" : Str) = s) || decide (("right" : Str) = s))) = true := by
      rw [decide_eq_false (fun h => hs (Or.inl h.symm)), decide_eq_false (fun h => hs (Or.inr h.symm))]; rfl
    rw [e]
    repeat walk_at "mst"
    exact r
/-- a match is made -/
theorem mk_ma {K : PySem.W.Frag} {H : Hp} {Q : Addr → Hp → Prop} {E : XK} {y : V} {s : Str} {gs : List BSt} (hs : s = "left" ∨ s = "right") (hy : MtS K H y gs) (k : ∀ x dx lm li H', H x = none → H lm = none → H li = none → Ex H H' → MaS K x dx s lm li [gs] [] H' → Q x H') :
    ∀ x dx, H x = none → H dx = none → dx ≠ x → sp_Match_d_init K (.ref x :: ([y, .str s] ++ [])) (upd (upd H dx (.own x)) x (.ins (He.ga K "Match") dx [])) (fun v H2 => v = .non ∧ Q x H2) E := by
  intro x dx hx hd hne
  have e : Ex H (upd (upd H dx (.own x)) x (.ins (He.ga K "Match") dx [])) := (Evl.Ex.new hd).trans (Evl.Ex.new (by rw [upd_ne hne.symm]; exact hx))
  refine ⟨x, dx, y, s, rfl, upd_same, Or.inl ⟨hs, fun lm li H' hl hi n kp h1 h2 h3 => ⟨rfl, ?_⟩⟩⟩
  have eH : Ex H H' := fun c o z => kp c o (e _ _ z) (ne_of_none z hx)
  exact k x dx lm li H' hx (Evl.fresh_back e hl) (Evl.fresh_back e hi) eH ⟨h3, ⟨[y], h1, AllAt.one (hy.kl (Kl.of eH))⟩, h2, rfl, hs, n, Nat.zero_le _⟩
theorem mk_badMa {K : PySem.W.Frag} {H : Hp} {Q : Addr → VK} {E : XK} {y : V} {s : Str} (hs : ¬ (s = "left" ∨ s = "right")) (k : ∀ H', Ex H H' → E (.ref (He.ga K "BadValue")) none H') :
    ∀ p dx, H p = none → H dx = none → dx ≠ p → sp_Match_d_init K (.ref p :: ([y, .str s] ++ [])) (upd (upd H dx (.own p)) p (.ins (He.ga K "Match") dx [])) (Q p) E := by
  intro p dx hp hd hne
  have e : Ex H (upd (upd H dx (.own p)) p (.ins (He.ga K "Match") dx [])) := (Evl.Ex.new hd).trans (Evl.Ex.new (by rw [upd_ne hne.symm]; exact hp))
  exact ⟨p, dx, y, s, rfl, upd_same, Or.inr ⟨hs, k _ e⟩⟩
structure FBadSide (K : PySem.W.Frag) : Prop where
  ex : PySem.W.exmOne K (.ref (He.ga K "BadValue")) (.ref (He.ga K "BadValue")) = some true
  k1 : PySem.W.kitOne K (.ref (He.ga K "BadValue")) (.ref (He.ga K "PlayError")) = some true
  k2 : PySem.W.kitOne K (.ref (He.ga K "BadValue")) (.ref (He.ga K "NoMove")) = some false
def sp_law_bad_side (K : PySem.W.Frag) : Sp := fun vs H Q _ => ∃ (y : V) (s : Str), vs = [y, .str s] ∧ ¬ (s = "left" ∨ s = "right") ∧ ∀ H', Ex H H' → Q (.bl true) H'
local macro_rules | `(tactic| walk_at "mst") => `(tactic| first
  | with_reducible refine k_tryAs ?_
  | with_reducible refine k_makeS ?_
  | with_reducible refine k_when ⟨rfl, rfl⟩ ?_
  | ((refine k_isE (b := ?_) ?_ rel_ref ?_); rotate_left; (focus assumption))
  | ((refine k_isE (b := ?_) ?_ rel_ty ?_); rotate_left; (focus assumption)))
abbrev N_law_bad_side : List Str := ["meeting", "first", "e"]
def t_law_bad_side (K : PySem.W.Frag) (E : XK) : TS := (tSeq (tTryAs K (.ref (He.ga K "BadValue")) 2 (fun W => (tDrop (tMakeS (He.ga K "Match") (sp_Match_d_init K) [] (WE W) (tCons (tVar 0) (tCons (tVar 1) tNil))))) (fun a cls d => tWhen (cls = .ref (He.ga K "BadValue") ∧ d = none) (tRet (tAndV (tCB (rIsE K (He.ga K "BadValue") a) (tCons (tVar 2) (tCons (tC (.ref (He.ga K "PlayError"))) tNil))) (tNotV (tCB (rIsE K (He.ga K "BadValue") a) (tCons (tVar 2) (tCons (tC (.ref (He.ga K "NoMove"))) tNil)))))))) (tRet (tC (.bl false))))
theorem len_law_bad_side {K : PySem.W.Frag} {vs : List V} {H : Hp} {Q : VK} {E : XK} (h : sp_law_bad_side K vs H Q E) : vs.length = 2 := by
  obtain ⟨_, _, rfl, _⟩ := h; rfl
theorem pure_law_bad_side {K : PySem.W.Frag} (F : FBadSide K) (vs : List V) (H : Hp) (Q : VK) (E : XK) (h : sp_law_bad_side K vs H Q E) : t_law_bad_side K E { nx := fun _ H' => Q .non H', rt := Q } (start N_law_bad_side vs) H := by
  obtain ⟨y, s, rfl, b, q⟩ := h
  obtain ⟨f0, f1, f2⟩ := F
  unfold t_law_bad_side
  repeat walk_at "mst"
  refine mk_badMa b fun H1 e1 => ?_
  refine k_wAs f0 fun a ha => ?_
  repeat walk_at "mst"
  exact q _ e1
theorem use_badside {K : PySem.W.Frag} {H : Hp} {Q : VK} {E : XK} {y : V} {s : Str} (b : ¬ (s = "left" ∨ s = "right")) (q : ∀ H', Ex H H' → Q (.bl true) H') : sp_law_bad_side K ([y, .str s] ++ []) H Q E := ⟨y, s, rfl, b, q⟩
def sp_Heaps_m_moves (K : PySem.W.Frag) : Sp := fun vs H Q _ => ∃ (b : Addr) (s : V) (ns : List Int), vs = [.ref b, s] ∧ HpAt K H b ns ∧ OkS ns ∧ ∀ p xs H', H p = none → Ex H H' → H' p = some (.lst xs) → BsAt K H' xs (mvs ns) → xs.length ≤ 240 → Q (.ref p) H'
local macro_rules | `(tactic| walk_at "mlk") => `(tactic| exact hfs_get _)
local macro_rules | `(tactic| walk_at "mst") => `(tactic| first
  | with_reducible refine k_star ?_
  | with_reducible refine k_enumT ?_)
abbrev N_Heaps_m_moves : List Str := ["self", "side", "found", "place", "size", "left"]
def t_Heaps_m_moves (K : PySem.W.Frag) (E : XK) : TS := (tSeq (tAsg (tLst tNil) (gName 2)) (tSeq (tFor (iEnumT K (tCons (tFld K (tVar 0) "_sizes") tNil)) (gTup K 2 (gCons (gName 3) (gCons (gName 4) gNil))) (tFor (iRng3 (tCons (tOp rSubI (tVar 4) (tC (.int 1))) (tCons (tUn rNegI (tC (.int 1))) (tCons (tUn rNegI (tC (.int 1))) tNil)))) (gName 5) (tDrop (tBM K "list" rAppend (tVar 2) (tCons (tMake (He.ga K "Heaps") (sp_Heaps_d_init K) [] E0 (tCons (tLst (StX.tStar K (tSl (rSlA K) (tFld K (tVar 0) "_sizes") tNoPart (tPart (tVar 3))) (tCons (tVar 5) (StX.tStar K (tSl (rSlA K) (tFld K (tVar 0) "_sizes") (tPart (tOp rAddI (tVar 3) (tC (.int 1)))) tNoPart) tNil)))) tNil)) tNil))))) (tRet (tVar 2))))
theorem len_Heaps_m_moves {K : PySem.W.Frag} {vs : List V} {H : Hp} {Q : VK} {E : XK} (h : sp_Heaps_m_moves K vs H Q E) : vs.length = 2 := by
  obtain ⟨_, _, _, rfl, _⟩ := h; rfl
theorem pure_Heaps_m_moves {K : PySem.W.Frag} (F : FHeaps K) (vs : List V) (H : Hp) (Q : VK) (E : XK) (h : sp_Heaps_m_moves K vs H Q E) : t_Heaps_m_moves K E { nx := fun _ H' => Q .non H', rt := Q } (start N_Heaps_m_moves vs) H := by
  obtain ⟨b, s, ns, rfl, ⟨dx, t, hb, ht⟩, ok, q⟩ := h
  unfold t_Heaps_m_moves
  obtain ⟨cl, na⟩ := F
  have n8 := ok.1
  repeat walk_at "mst"
  refine ⟨by decide, fun fp nfp => ?_⟩
  have e1 := Evl.Ex.new (o := HO.lst []) nfp
  have s1 : upd H fp (HO.lst []) fp = some (HO.lst []) := upd_same
  generalize upd H fp (HO.lst []) = H1 at *
  have hb1 := e1 _ _ hb
  have ht1 := e1 _ _ ht
  repeat walk_at "mst"
  refine ⟨t, _, rfl, k_st ht1, for_enumT (xs := ns.map V.int) (fun i σ H' => ∃ (xs : List V) (x3 x4 x5 : Option V), Ex H H' ∧ H' fp = some (.lst xs) ∧ BsAt K H' xs ((List.range i).flatMap (mvAt ns)) ∧ xs.length ≤ 30 * i ∧ σ = [some (.ref b), some s, some (.ref fp), x3, x4, x5]) ⟨[], none, none, none, e1, s1, ⟨rfl, fun i s h => by simp at h⟩, Nat.zero_le _, rfl⟩ ?_ ?_ ?_⟩
  · rintro i σ H' _ ⟨_, _, _, _, e, _⟩; exact k_st (e _ _ ht)
  · rintro i x σ H2 T hx ⟨xs, x3, x4, x5, e, hf, bs, xl, rfl⟩ hT
    obtain ⟨z, hz, rfl⟩ := get_int hx
    have hi := (List.getElem?_eq_some_iff.mp hz).1
    have ez : ns.getD i 0 = z := by rw [List.getD_eq_getElem?_getD, hz]; rfl
    have bz := ok.2 z (List.mem_of_getElem? hz)
    have e2 : Ex H2 (upd H2 T (HO.tup [V.int (i : Int), V.int z])) := Evl.Ex.new hT
    have sT : upd H2 T (HO.tup [V.int (i : Int), V.int z]) T = some (HO.tup [V.int (i : Int), V.int z]) := upd_same
    generalize upd H2 T (HO.tup [V.int (i : Int), V.int z]) = H3 at *
    refine k_gtup (k_st sT) rfl ?_
    repeat walk_at "mst"
    refine ⟨_, _, _, _, rfl, RgC.neg (by omega) (by omega) (by decide) (by decide), ?_⟩
    have en : (z - 1 - -1).toNat = z.toNat := by omega
    rw [en]
    refine for_rangeC (lo := z - 1) (c := -1) (fun j σ H' => ∃ (xs : List V) (x5 : Option V), Ex H H' ∧ H' fp = some (.lst xs) ∧ BsAt K H' xs ((List.range i).flatMap (mvAt ns) ++ (mvAt ns i).take j) ∧ xs.length ≤ 30 * i + j ∧ σ = [some (.ref b), some s, some (.ref fp), some (.int (i : Int)), some (.int z), x5]) ⟨xs, x5, e.trans e2, e2 _ _ hf, by rw [List.take_zero, List.append_nil]; exact bs.ex e2, by omega, rfl⟩ ?_ ?_
    · rintro j σ H4 hj ⟨ys, y5, e4, hf4, bs4, yl, rfl⟩
      have hb4 := e4 _ _ hb
      have ht4 := e4 _ _ ht
      repeat walk_at "mst"
      refine k_slA (k_st ht4) fun p1 H5 e5 h5 => ?_
      rw [cut_to (by omega)] at h5
      refine ⟨p1, _, rfl, Or.inl h5, ?_⟩
      have hb5 := e5 _ _ hb4
      have ht5 := e5 _ _ ht4
      repeat walk_at "mst"
      refine k_slA (k_st ht5) fun p2 H6 e6 h6 => ?_
      rw [show (i : Int) + 1 = ((i + 1 : Nat) : Int) by omega, cut_on (by omega)] at h6
      refine ⟨p2, _, rfl, Or.inl h6, ?_⟩
      repeat walk_at "mst"
      have eL : (List.map V.int (ns.take i) ++ V.int (z - 1 + (j : Int) * -1) :: (List.map V.int (ns.drop (i + 1)) ++ [])) = (ns.take i ++ [ns.getD i 0 - 1 - (j : Int)] ++ ns.drop (i + 1)).map V.int := by
        have e0 : z - 1 + (j : Int) * -1 = z - 1 - (j : Int) := by omega
        rw [ez, e0]; simp
      rw [eL]
      have okm := okS_mv ok hi (j := j) (by rw [ez]; exact hj)
      have em : (mvAt ns i)[j]? = some (ns.take i ++ [ns.getD i 0 - 1 - (j : Int)] ++ ns.drop (i + 1)) := by
        unfold mvAt
        rw [List.getElem?_map, List.getElem?_range (by rw [ez]; exact hj)]; rfl
      generalize ns.take i ++ [ns.getD i 0 - 1 - (j : Int)] ++ ns.drop (i + 1) = ms at *
      refine ⟨by rw [List.length_map]; exact Nat.le_trans okm.1 (by decide), fun lp nlp => ?_⟩
      have e7 := Evl.Ex.new (o := HO.lst (ms.map V.int)) nlp
      have s7 : upd H6 lp (HO.lst (ms.map V.int)) lp = some (HO.lst (ms.map V.int)) := upd_same
      generalize upd H6 lp (HO.lst (ms.map V.int)) = H7 at *
      repeat walk_at "mst"
      refine mk_hp (k_sq s7) okm fun x H8 nx e8 hx => ?_
      have e48 := e5.trans (e6.trans (e7.trans e8))
      have hf8 := e48 _ _ hf4
      have bs8 := (bs4.ex e48).snoc hx
      repeat walk_at "mst"
      · exact Nat.lt_of_le_of_lt (show _ ≤ 300 by omega) (by decide)
      refine ⟨ys ++ [V.ref x], _, Evl.Ex.mut (e4.trans e48) nfp, upd_same, ?_, by rw [List.length_append, List.length_singleton]; omega, rfl⟩
      rw [List.take_add_one, em]
      have bs9 := bs8.keep (H' := upd H8 fp (HO.lst (ys ++ [V.ref x]))) fun c o q n => (upd_ne (fun e => n _ (by rw [e, hf8] at q; exact (Option.some.inj q).symm))).trans q
      rw [List.append_assoc] at bs9
      exact bs9
    · rintro σ H4 ⟨ys, y5, e4, hf4, bs4, yl, rfl⟩
      refine ⟨ys, _, _, _, e4, hf4, ?_, by omega, rfl⟩
      have l : (mvAt ns i).length = z.toNat := by unfold mvAt; rw [List.length_map, List.length_range, ez]
      rw [List.take_of_length_le (by omega)] at bs4
      rw [List.range_succ, List.flatMap_append, List.flatMap_singleton]
      exact bs4
  · rintro σ H2 ⟨xs, x3, x4, x5, e, hf, bs, xl, rfl⟩
    rw [List.length_map] at bs xl
    repeat walk_at "mst"
    exact q fp xs H2 nfp e hf bs (by omega)
theorem use_hmoves {K : PySem.W.Frag} {H : Hp} {Q : VK} {E : XK} {b : Addr} {s : V} {ns : List Int} (h : HpAt K H b ns) (ok : OkS ns) (q : ∀ p xs H', H p = none → Ex H H' → H' p = some (.lst xs) → BsAt K H' xs (mvs ns) → xs.length ≤ 240 → Q (.ref p) H') : sp_Heaps_m_moves K (.ref b :: ([s] ++ [])) H Q E := ⟨b, s, ns, rfl, h, ok, q⟩
def sp_Hedge_m_value (K : PySem.W.Frag) : Sp := fun vs H Q _ => ∃ (b : Addr) (l : List Edge), vs = [.ref b] ∧ HgAt K H b l ∧ ∀ v H', Ex H H' → DuH H' v l → Q v H'
local macro_rules | `(tactic| walk_at "mlk") => `(tactic| exact ghe_get _)
abbrev N_Hedge_m_value : List Str := ["self"]
def t_Hedge_m_value (K : PySem.W.Frag) (E : XK) : TS := (tRet (tTup (tCons (tC (.str "hedge")) (tCons (tFld K (tVar 0) "_edges") tNil))))
theorem len_Hedge_m_value {K : PySem.W.Frag} {vs : List V} {H : Hp} {Q : VK} {E : XK} (h : sp_Hedge_m_value K vs H Q E) : vs.length = 1 := by
  obtain ⟨_, _, rfl, _⟩ := h; rfl
theorem pure_Hedge_m_value {K : PySem.W.Frag} (F : FHedge K) (vs : List V) (H : Hp) (Q : VK) (E : XK) (h : sp_Hedge_m_value K vs H Q E) : t_Hedge_m_value K E { nx := fun _ H' => Q .non H', rt := Q } (start N_Hedge_m_value vs) H := by
  obtain ⟨b, l, rfl, ⟨dx, t, xs, hb, ht, R⟩, q⟩ := h
  unfold t_Hedge_m_value
  obtain ⟨cl, na⟩ := F
  repeat walk_at "mst"
  exact ⟨fits (Nat.le_of_ble_eq_true rfl), fun p np => q _ _ (Evl.Ex.new np) ⟨p, t, xs, rfl, upd_same, Evl.Ex.new np _ _ ht, R.imp fun y c q => q.ex (Evl.Ex.new np)⟩⟩
theorem use_hevalue {K : PySem.W.Frag} {H : Hp} {Q : VK} {E : XK} {b : Addr} {l : List Edge} (h : HgAt K H b l) (q : ∀ v H', Ex H H' → DuH H' v l → Q v H') : sp_Hedge_m_value K (.ref b :: ([] ++ [])) H Q E := ⟨b, l, rfl, h, q⟩
def sp_Hedge_m_moves (K : PySem.W.Frag) : Sp := fun vs H Q _ => ∃ (b : Addr) (s : Str) (es : List Edge), vs = [.ref b, .str s] ∧ (s = "left" ∨ s = "right") ∧ HgAt K H b es ∧ (∀ e ∈ es, OkE e) ∧ es.length ≤ 16 ∧ ∀ p ys H', H p = none → Ex H H' → H' p = some (.lst ys) → BsH K H' ys (mvsE s es) → Q (.ref p) H'
local macro_rules | `(tactic| walk_at "mlk") => `(tactic| exact ghe_get _)
local macro_rules | `(tactic| walk_at "new") => `(tactic| ((first | refine ⟨fits (Nat.le_of_ble_eq_true rfl), ?_⟩ | skip); intro p np; generalize hq : upd _ p _ = H1; have e1 := nx np hq; have s1 := nS hq; clear hq))
local macro_rules | `(tactic| walk_at "mst") => `(tactic| first
  | with_reducible refine k_star ?_
  | with_reducible refine k_nsetd ?_
  | with_reducible refine k_nvals ?_
  | with_reducible refine k_enumT ?_)
abbrev N_Hedge_m_moves : List Str := ["self", "side", "found", "at", "edge", "board"]
def t_Hedge_m_moves (P : Program) (w : World) (K : PySem.W.Frag) (E : XK) : TS := (tSeq (tAsg (tNNew P w) (gName 2)) (tSeq (tFor (iEnumT K (tCons (tFld K (tVar 0) "_edges") tNil)) (gTup K 2 (gCons (gName 3) (gCons (gName 4) gNil))) (tIfS (tTest (tOp (rIn K false) (tOp (rIxT K) (tVar 4) (tC (.int 2))) (tOp (rKD K (He.ga K "CUTS")) (tC (.ref (He.ga K "CUTS"))) (tVar 1)))) (tSeq (tAsg (tMake (He.ga K "Hedge") (sp_Hedge_d_init K) [] E0 (tCons (tLst (StX.tStar K (tSl (rSlA K) (tFld K (tVar 0) "_edges") tNoPart (tPart (tVar 3))) (StX.tStar K (tSl (rSlA K) (tFld K (tVar 0) "_edges") (tPart (tOp rAddI (tVar 3) (tC (.int 1)))) tNoPart) tNil))) tNil)) (gName 5)) (tDrop (tNSetd P w (tVar 2) (tCons (tMeth (He.ga K "Hedge") "value" (sp_Hedge_m_value K) [] E0 (tVar 5) tNil) (tCons (tVar 5) tNil))))) tNext)) (tRet (tCB (rListVw P w) (tCons (tNVals P w (tVar 2)) tNil)))))
theorem len_Hedge_m_moves {K : PySem.W.Frag} {vs : List V} {H : Hp} {Q : VK} {E : XK} (h : sp_Hedge_m_moves K vs H Q E) : vs.length = 2 := by
  obtain ⟨_, _, _, rfl, _⟩ := h; rfl
theorem pure_Hedge_m_moves {P : Program} {w : World} {K : PySem.W.Frag} (F : FHedge K) (G : FCUTS K) (vs : List V) (H : Hp) (Q : VK) (E : XK) (h : sp_Hedge_m_moves K vs H Q E) : t_Hedge_m_moves P w K E { nx := fun _ H' => Q .non H', rt := Q } (start N_Hedge_m_moves vs) H := by
  obtain ⟨b, s, es, rfl, hs, hB, ok, l16, q⟩ := h
  obtain ⟨dx, t, xs, hb, ht, R⟩ := id hB
  have xl := R.1
  have mv : PySem.W.nsIn K (He.ga K "CUTS") s = some (some (.ref (kdA K "CUTS" s))) ∧ ∀ H, SqT K H (kdA K "CUTS" s) [.str (oneC s), .str "green"] := by
    rcases hs with rfl | rfl
    · exact G.l
    · exact G.r
  unfold t_Hedge_m_moves
  obtain ⟨cl, na⟩ := F
  repeat walk_at "mst"
  refine fun d nd => ?_
  generalize hq : upd H d (NvO P w d []) = H1
  have e1 := nx nd hq
  have s1 := nS hq
  clear hq
  have hb1 := e1 _ _ hb
  have ht1 := e1 _ _ ht
  repeat walk_at "mst"
  refine ⟨t, _, rfl, k_st ht1, for_enumT (xs := xs) (fun i σ H' => ∃ (kvs : List NE) (x3 x4 x5 : Option V), Ex H H' ∧ H' d = some (NvO P w d kvs) ∧ KeysV H' kvs ∧ kvs.map (·.1) = (mvsTo s es i).map keyH ∧ BsH K H' (kvs.map (·.2.2)) (mvsTo s es i) ∧ σ = [some (.ref b), some (.str s), some (.ref d), x3, x4, x5]) ⟨[], none, none, none, e1, s1, fun e m => (nomatch m), rfl, .nil, rfl⟩ ?_ ?_ ?_⟩
  · rintro i σ H' _ ⟨_, _, _, _, e, _⟩; exact k_st (e _ _ ht)
  · rintro i x σ H2 T hx ⟨kvs, x3, x4, x5, e, hd, kk, km, bs, rfl⟩ hT
    have hi := (List.getElem?_eq_some_iff.mp hx).1
    have hc := List.getElem?_eq_getElem (l := es) (i := i) (by omega)
    obtain ⟨x', hx', u, rfl, hu⟩ := R.2 i _ hc
    rw [hx] at hx'
    cases hx'
    generalize hed : es[i]'(by omega) = ed at *
    obtain ⟨one, other, col⟩ := ed
    have few : kvs.length ≤ i := by
      have := congrArg List.length km
      rw [List.length_map, List.length_map] at this
      rw [this]
      exact mvsTo_len s es i
    have e2 : Ex H2 (upd H2 T (HO.tup [V.int (i : Int), V.ref u])) := Evl.Ex.new hT
    have sT : upd H2 T (HO.tup [V.int (i : Int), V.ref u]) T = some (HO.tup [V.int (i : Int), V.ref u]) := upd_same
    generalize upd H2 T (HO.tup [V.int (i : Int), V.ref u]) = H3 at *
    have e03 := e.trans e2
    have hu3 := e03 _ _ hu
    have ht3 := e03 _ _ ht
    have hb3 := e03 _ _ hb
    have hd3 := e2 _ _ hd
    have kk3 := kk.ex e2
    have bs3 := bs.imp fun y c q => q.ex e2
    refine k_gtup (k_st sT) rfl ?_
    repeat walk_at "mst"
    refine k_kd mv ?_
    refine ⟨_, _, rfl, Or.inr (mv.2 H3), rfl, rfl, ?_⟩
    rw [cuts_in]
    refine ⟨_, rfl, k_iteB (fun hcol => ?_) (fun hcol => ?_)⟩
    rotate_left
    · have hcol : colH s col = false := hcol
      repeat walk_at "mst"
      refine ⟨kvs, _, _, _, e03, hd3, kk3, ?_, ?_, rfl⟩
      · show _ = (stepM s es (mvsTo s es i) i).map keyH
        rw [step_no hc hcol]; exact km
      · show BsH K H3 _ (stepM s es (mvsTo s es i) i)
        rw [step_no hc hcol]; exact bs3
    · have hcol : colH s col = true := hcol
      repeat walk_at "mst"
      refine k_slH ht3 fun p1 H5 e5 h5 => ?_
      rw [cut_cut (by omega)] at h5
      refine ⟨p1, _, rfl, Or.inl (k_st h5), ?_⟩
      have hb5 := e5 _ _ hb3
      have ht5 := e5 _ _ ht3
      repeat walk_at "mst"
      refine k_slH ht5 fun p2 H6 e6 h6 => ?_
      rw [show (i : Int) + 1 = ((i + 1 : Nat) : Int) by omega, cut_off (by omega)] at h6
      refine ⟨p2, _, rfl, Or.inl (k_st h6), ?_⟩
      repeat walk_at "mst"
      rw [List.append_nil]
      have ll : (xs.take i ++ xs.drop (i + 1)).length ≤ 16 := by rw [List.length_append, List.length_take, List.length_drop]; omega
      refine ⟨fits (by omega), ?_⟩
      walk_at "new"; rename_i lp nlp H7 e7 h7
      have e37 := (e5.trans e6).trans e7
      have Re : EsAt H7 (xs.take i ++ xs.drop (i + 1)) (es.eraseIdx i) := (erase_at R i).imp fun y c q => q.ex (e03.trans e37)
      have oke : ∀ e ∈ es.eraseIdx i, OkE e := fun e m => ok e (List.mem_of_mem_eraseIdx m)
      have le : (es.eraseIdx i).length ≤ 16 := Nat.le_trans (List.length_eraseIdx_le _ _) l16
      repeat walk_at "mst"
      refine mk_he (k_sq h7) Re oke le fun x H8 nx_ e8 hX => ?_
      have hX : HgAt K H8 x (cutE es i) := hX
      have e38 := e37.trans e8
      have hd8 := e38 _ _ hd3
      have kk8 := kk3.ex e38
      have bs8 := bs3.imp fun y c q => q.ex e38
      obtain ⟨dx2, t2, xs2, hI, hIt, hIR⟩ := id hX
      repeat walk_at "mst"
      refine ⟨d, kvs, rfl, hd8, ?_⟩
      repeat walk_at "mst"
      refine ⟨x, dx2, _, rfl, hI, ghe_no _ (by decide +kernel), ?_⟩
      repeat walk_at "mst"
      refine use_hevalue hX fun v H9 e9 hv => ?_
      obtain ⟨vd, rfl, kv⟩ := hv.key
      have hd9 := e9 _ _ hd8
      have kk9 := kk8.ex e9
      have bs9 := bs8.imp fun y c q => q.ex e9
      have hX9 := hX.ex e9
      have e09 := (e03.trans e38).trans e9
      repeat walk_at "mst"
      refine ⟨vd, _, kvs, keyH (cutE es i), rfl, hd9, kk9, kv, keyH_deep _, fits' (by omega), fun v hv' => ?_, fun hn => ?_⟩
      · have m : cutE es i ∈ mvsTo s es i := by
          refine Classical.byContradiction fun n => ?_
          rw [(look_keys km _).mpr n] at hv'; cases hv'
        repeat walk_at "mst"
        refine ⟨kvs, _, _, _, e09, hd9, kk9, ?_, ?_, rfl⟩
        · show _ = (stepM s es (mvsTo s es i) i).map keyH
          rw [step_in hc hcol m]; exact km
        · show BsH K H9 _ (stepM s es (mvsTo s es i) i)
          rw [step_in hc hcol m]; exact bs9
      · have m := (look_keys km _).mp hn
        have kp := kk9.put (v := .ref x) kv (keyH_deep _)
        rw [putV_new hn] at kp
        rw [putV_new hn]
        have fx := upd_fx (o1 := NvO P w d (kvs ++ [(keyH (cutE es i), vd, .ref x)])) hd9 (fun h => h)
        repeat walk_at "mst"
        refine ⟨kvs ++ [(keyH (cutE es i), vd, .ref x)], _, _, _, Evl.Ex.mut e09 nd, upd_same, kp.keep fun c ys z => fx c _ z True.intro, ?_, ?_, rfl⟩
        · show _ = (stepM s es (mvsTo s es i) i).map keyH
          rw [step_new hc hcol m, List.map_append, List.map_append, km]; rfl
        · show BsH K _ _ (stepM s es (mvsTo s es i) i)
          rw [step_new hc hcol m, List.map_append]
          exact (bs9.imp fun y c q => q.fx fx).app (.one ⟨x, rfl, hX9.fx fx⟩)
  · rintro σ H2 ⟨kvs, x3, x4, x5, e, hd, kk, km, bs, rfl⟩
    repeat walk_at "mst"
    refine ⟨d, kvs, rfl, hd, fun v nv => ?_⟩
    repeat walk_at "mst"
    refine ⟨v, d, kvs, rfl, upd_same, (upd_ne (ne_of_none hd nv)).trans hd, fun p np => ?_⟩
    have e2 : Ex H2 (upd H2 v (VwO v d)) := Evl.Ex.new nv
    have e3 : Ex (upd H2 v (VwO v d)) (upd (upd H2 v (VwO v d)) p (HO.lst (kvs.map (·.2.2)))) := Evl.Ex.new np
    have e23 := e2.trans e3
    rw [xl] at bs
    exact q p _ _ (Evl.fresh_back (e.trans e2) np) (e.trans e23) upd_same (bs.imp fun y c q => q.ex e23)
theorem use_hemoves {K : PySem.W.Frag} {H : Hp} {Q : VK} {E : XK} {b : Addr} {s : Str} {es : List Edge} (hs : s = "left" ∨ s = "right") (hB : HgAt K H b es) (ok : ∀ e ∈ es, OkE e) (l16 : es.length ≤ 16) (q : ∀ p ys H', H p = none → Ex H H' → H' p = some (.lst ys) → BsH K H' ys (mvsE s es) → Q (.ref p) H') : sp_Hedge_m_moves K (.ref b :: ([.str s] ++ [])) H Q E := ⟨b, s, es, rfl, hs, hB, ok, l16, q⟩
def cellsV (H : Hp) (y : V) (c : Nat × Nat) : Prop := ∃ a, y = .ref a ∧ H a = some (.tup [.int (c.1 : Int), .int (c.2 : Int)])
def cellL (n w : Nat) : List (Nat × Nat) := (List.range n).flatMap fun i => (List.range w).map fun j => (i, j)
theorem cellL_len (n w : Nat) : (cellL n w).length = n * w := by
  unfold cellL
  induction n with
  | zero => simp
  | succ n ih => rw [List.range_succ, List.flatMap_append, List.length_append, ih, List.flatMap_cons, List.flatMap_nil, List.append_nil, List.length_map, List.length_range, Nat.add_mul, Nat.one_mul]
def sp_Floor_p_cells (K : PySem.W.Frag) : Sp := fun vs H Q _ => ∃ (b : Addr) (rs : Fl) (w : Nat), vs = [.ref b] ∧ FlAt K H b rs ∧ OkF rs w ∧ ∀ D ys H', H D = none → Ex H H' → H' D = some (.lst ys) → AllAt cellsV H' ys (cellL rs.length w) → Q (.ref D) H'
local macro_rules | `(tactic| walk_at "mlk") => `(tactic| exact gfl_get _)
theorem cellsV.keep {H H' : Hp} {y : V} {c : Nat × Nat} (h : cellsV H y c) (k : ∀ c o, H c = some o → (∀ ys, o ≠ .lst ys) → H' c = some o) : cellsV H' y c := let ⟨a, r, z⟩ := h; ⟨a, r, k _ _ z (fun ys z => by cases z)⟩
theorem AllAt.snoc2 {α : Type} {P : Hp → V → α → Prop} {H : Hp} {xs : List V} {cs : List α} {y : V} {c : α} (h : AllAt P H xs cs) (p : P H y c) : AllAt P H (xs ++ [y]) (cs ++ [c]) := by
  refine ⟨by rw [List.length_append, List.length_append, h.1]; rfl, fun i d hd => ?_⟩
  rcases get_snoc2 hd with hd | ⟨e, r⟩
  · obtain ⟨z, hz, q⟩ := h.2 i d hd
    exact ⟨z, by rw [List.getElem?_append_left (List.getElem?_eq_some_iff.mp hz).1]; exact hz, q⟩
  · subst r
    exact ⟨y, by rw [e, ← h.1, List.getElem?_append_right (Nat.le_refl _), Nat.sub_self]; rfl, p⟩
abbrev N_Floor_p_cells : List Str := ["self", "row", "column"]
def t_Floor_p_cells (K : PySem.W.Frag) (E : XK) : TS := (tRet (tLc2 (iRng1 (tCons (tCB (rLenQ K) (tCons (tFld K (tVar 0) "_rows") tNil)) tNil)) (gName 1) tYes (iRng1 (tCons (tCB rLenS (tCons (tOp (rIxT K) (tFld K (tVar 0) "_rows") (tC (.int 0))) tNil)) tNil)) (gName 2) tYes (tTup (tCons (tVar 1) (tCons (tVar 2) tNil))) [1, 2] [2]))
theorem len_Floor_p_cells {K : PySem.W.Frag} {vs : List V} {H : Hp} {Q : VK} {E : XK} (h : sp_Floor_p_cells K vs H Q E) : vs.length = 1 := by
  obtain ⟨_, _, _, rfl, _⟩ := h; rfl
theorem pure_Floor_p_cells {K : PySem.W.Frag} (F : FFloor K) (vs : List V) (H : Hp) (Q : VK) (E : XK) (h : sp_Floor_p_cells K vs H Q E) : t_Floor_p_cells K E { nx := fun _ H' => Q .non H', rt := Q } (start N_Floor_p_cells vs) H := by
  obtain ⟨b, rs, w, rfl, ⟨dx, t, hb, ht⟩, ok, q⟩ := h
  unfold t_Floor_p_cells
  obtain ⟨cl, na⟩ := F
  obtain ⟨r0, h0, o0⟩ := ok.at (i := 0) ok.n1
  have w6 := ok.w6
  have l0 := o0.1
  have hl := rowsV_len rs
  repeat walk_at "mst"
  unfold tLc2
  repeat walk_at "mst"
  have n6 := ok.n6
  refine ⟨_, rfl, by omega, by omega, ?_⟩
  intro D hD
  refine ⟨fun i m H' => i ≤ rs.length ∧ m = rs.length - i ∧ ∃ ys, Ex H H' ∧ H' D = some (.lst ys) ∧ AllAt cellsV H' ys (cellL i w), ⟨rs.length, Nat.zero_le _, by omega, [], Evl.Ex.new hD, upd_same, ⟨rfl, fun i c h => by cases h⟩⟩, ?_⟩
  rintro i m H1 ⟨hi, rfl, ys, e1, hd, al⟩
  rcases Nat.lt_or_ge i rs.length with h | h
  · refine Or.inr ⟨by show i < _; omega, fun H' => i + 1 ≤ rs.length ∧ ∃ ys, Ex H H' ∧ H' D = some (.lst ys) ∧ AllAt cellsV H' ys (cellL (i + 1) w), fun H' p' => ⟨rs.length - (i + 1), by omega, by omega, rfl, p'.2⟩, ?_⟩
    rintro x H' ⟨rfl, rfl⟩
    have ht1 := e1 _ _ ht
    have hb1 := e1 _ _ hb
    have ei : (0 : Int) + (i : Int) = (i : Int) := Int.zero_add _
    rw [ei]
    have st : ∀ (H2 : Hp) (j : Nat) (ys : List V), Ex H H2 → H2 D = some (.lst ys) → AllAt cellsV H2 ys (cellL i w ++ (List.range j).map fun j => (i, j)) → j ≤ w → ys.length ≤ 36 := by
      intro H2 j ys _ _ al hj
      have := al.1
      rw [List.length_append, cellL_len, List.length_map, List.length_range] at this
      have : i * w ≤ 5 * w := Nat.mul_le_mul_right _ (by omega)
      omega
    repeat walk_at "mst"
    refine ⟨rfl, ?_⟩
    unfold tYes
    repeat walk_at "mst"
    refine k_ixT (k_st ht1) (atI_nat (j := 0) (rowsV_at h0)) ?_
    repeat walk_at "mst"
    refine k_lenX (by omega) ?_
    repeat walk_at "mst"
    refine ⟨_, rfl, by omega, by omega, ?_⟩
    refine ⟨fun j k H' => j ≤ w ∧ k = w - j ∧ ∃ ys, Ex H H' ∧ H' D = some (.lst ys) ∧ AllAt cellsV H' ys (cellL i w ++ (List.range j).map fun j => (i, j)), ⟨w, Nat.zero_le _, by omega, ys, e1, hd, by rw [List.range_zero, List.map_nil, List.append_nil]; exact al⟩, ?_⟩
    rintro j k H2 ⟨hj, rfl, zs, e2, hz, al2⟩
    rcases Nat.lt_or_ge j w with hj2 | hj2
    · refine Or.inr ⟨by show j < _; omega, fun H' => j + 1 ≤ w ∧ ∃ ys, Ex H H' ∧ H' D = some (.lst ys) ∧ AllAt cellsV H' ys (cellL i w ++ (List.range (j + 1)).map fun j => (i, j)), fun H' p' => ⟨w - (j + 1), by omega, by omega, rfl, p'.2⟩, ?_⟩
      rintro x H' ⟨rfl, rfl⟩
      have ej : (0 : Int) + (j : Int) = (j : Int) := Int.zero_add _
      rw [ej]
      repeat walk_at "mst"
      refine ⟨rfl, ?_⟩
      repeat walk_at "mst"
      refine ⟨fits (Nat.le_of_ble_eq_true rfl), fun u nu => ?_⟩
      have nuD : D ≠ u := ne_of_none hz nu
      refine ⟨zs, (upd_ne nuD).trans hz, fits' (Nat.le_trans (st _ _ _ e2 hz al2 hj) (by decide)), hj2, zs ++ [.ref u], ?_, upd_same, ?_⟩
      · exact Evl.Ex.mut (e2.trans (Evl.Ex.new nu)) hD
      · rw [List.range_succ, List.map_append, ← List.append_assoc]
        refine AllAt.snoc2 (al2.imp fun y c q => q.keep fun c o z n => ?_) ⟨u, rfl, (upd_ne nuD.symm).trans upd_same⟩
        have nc : c ≠ D := fun h => by subst h; rw [hz] at z; cases z; exact n _ rfl
        rw [upd_ne nc]
        exact Evl.Ex.new nu _ _ z
    · have ej : j = w := by omega
      subst ej
      refine Or.inl ⟨by show _ ≤ _; omega, h, zs, e2, hz, ?_⟩
      unfold cellL at al2 ⊢
      rw [List.range_succ, List.flatMap_append, List.flatMap_cons, List.flatMap_nil, List.append_nil]
      exact al2
  · have ei : i = rs.length := by omega
    subst ei
    exact Or.inl ⟨by show _ ≤ _; omega, q D ys H1 hD e1 hd al⟩
theorem use_cells {K : PySem.W.Frag} {H : Hp} {Q : VK} {E : XK} {b : Addr} {rs : Fl} {w : Nat} (h : FlAt K H b rs) (ok : OkF rs w) (q : ∀ D ys H', H D = none → Ex H H' → H' D = some (.lst ys) → AllAt cellsV H' ys (cellL rs.length w) → Q (.ref D) H') : sp_Floor_p_cells K (.ref b :: ([] ++ [])) H Q E := ⟨b, rs, w, rfl, h, ok, q⟩
/-- a free cell, by any integers -/
def freZ (rs : Fl) (i j : Int) : Bool := decide (0 ≤ i) && decide (0 ≤ j) && fre rs i.toNat j.toNat
theorem freZ_nat (rs : Fl) (i j : Nat) : freZ rs (i : Int) (j : Int) = fre rs i j := by
  unfold freZ
  rw [decide_eq_true (Int.natCast_nonneg i), decide_eq_true (Int.natCast_nonneg j), Int.toNat_natCast, Int.toNat_natCast]
  rfl
def sp_Floor_p_is_free (K : PySem.W.Frag) : Sp := fun vs H Q _ => ∃ (b : Addr) (rs : Fl) (w : Nat) (i j : Int), vs = [.ref b, .int i, .int j] ∧ FlAt K H b rs ∧ OkF rs w ∧ Q (.bl (freZ rs i j)) H
local macro_rules | `(tactic| walk_at "mlk") => `(tactic| exact gfl_get _)
abbrev N_Floor_p_is_free : List Str := ["self", "row", "column"]
def t_Floor_p_is_free (K : PySem.W.Frag) (E : XK) : TS := (tSeq (tIfS (tAnd (tTest (tChain rLeI rLtI (tC (.int 0)) (tVar 1) (tCB (rLenQ K) (tCons (tFld K (tVar 0) "_rows") tNil)))) (tTest (tChain rLeI rLtI (tC (.int 0)) (tVar 2) (tCB rLenS (tCons (tOp (rIxT K) (tFld K (tVar 0) "_rows") (tC (.int 0))) tNil))))) (tRet (tOp rEq (tOp rIxS (tOp (rIxT K) (tFld K (tVar 0) "_rows") (tVar 1)) (tVar 2)) (tC (.str ".")))) tNext) (tRet (tC (.bl false))))
theorem len_Floor_p_is_free {K : PySem.W.Frag} {vs : List V} {H : Hp} {Q : VK} {E : XK} (h : sp_Floor_p_is_free K vs H Q E) : vs.length = 3 := by
  obtain ⟨_, _, _, _, _, rfl, _⟩ := h; rfl
theorem pure_Floor_p_is_free {K : PySem.W.Frag} (F : FFloor K) (vs : List V) (H : Hp) (Q : VK) (E : XK) (h : sp_Floor_p_is_free K vs H Q E) : t_Floor_p_is_free K E { nx := fun _ H' => Q .non H', rt := Q } (start N_Floor_p_is_free vs) H := by
  obtain ⟨b, rs, w, i, j, rfl, ⟨dx, t, hb, ht⟩, ok, q⟩ := h
  unfold t_Floor_p_is_free
  obtain ⟨cl, na⟩ := F
  have hl := rowsV_len rs
  by_cases hi0 : 0 ≤ i
  rotate_left
  · have q : Q (.bl false) H := by
      unfold freZ at q
      rw [decide_eq_false hi0] at q
      exact q
    repeat walk_at "mst"
    refine k_iteD (fun z => absurd z hi0) (fun z => ?_)
    repeat walk_at "mst"
    exact q
  by_cases hj0 : 0 ≤ j
  rotate_left
  · have q : Q (.bl false) H := by
      unfold freZ at q
      rw [decide_eq_false hj0, Bool.and_false] at q
      exact q
    repeat walk_at "mst"
    refine k_iteD (fun z => ?_) (fun z => absurd hi0 z)
    repeat walk_at "mst"
    refine k_iteD (fun z1 => ?_) (fun z1 => ?_)
    · repeat walk_at "mst"
      refine k_iteD (fun z2 => absurd z2 hj0) (fun z2 => ?_)
      repeat walk_at "mst"
      exact q
    · repeat walk_at "mst"
      exact q
  obtain ⟨i, rfl⟩ : ∃ n : Nat, i = (n : Int) := ⟨i.toNat, by omega⟩
  obtain ⟨j, rfl⟩ : ∃ n : Nat, j = (n : Int) := ⟨j.toNat, by omega⟩
  rw [freZ_nat] at q
  have out : ¬ (i < rs.length ∧ j < w) → fre rs i j = false := fun n => by
    cases e : fre rs i j
    · rfl
    · exact absurd (fre_in ok e) n
  obtain ⟨r0, h0, o0⟩ := ok.at (i := 0) ok.n1
  have w6 := ok.w6
  repeat walk_at "mst"
  refine k_iteD (fun z => ?_) (fun z => absurd (Int.natCast_nonneg i) z)
  repeat walk_at "mst"
  have no : ¬ (i < rs.length ∧ j < w) → Q (.bl false) H := fun n => by
    have e := out n
    rw [e] at q
    exact q
  refine k_iteD (fun z1 => ?_) (fun z1 => ?_)
  · repeat walk_at "mst"
    refine k_iteD (fun z2 => ?_) (fun z2 => absurd (Int.natCast_nonneg j) z2)
    repeat walk_at "mst"
    refine k_ixT (k_st ht) (atI_nat (j := 0) (rowsV_at h0)) ?_
    repeat walk_at "mst"
    have l0 := o0.1
    refine k_lenX (by omega) ?_
    repeat walk_at "mst"
    refine k_iteD (fun z3 => ?_) (fun z3 => ?_)
    · repeat walk_at "mst"
      obtain ⟨r, hr, o⟩ := ok.at (i := i) (by omega)
      have lr := o.1
      refine k_ixT (k_st ht) (atI_nat (rowsV_at hr)) ?_
      repeat walk_at "mst"
      have hj : r[j]? = some (r[j]'(by omega)) := List.getElem?_eq_getElem _
      refine k_ixX (by omega) (atI_nat hj) ?_
      repeat walk_at "mst"
      refine k_eqX (b := [46]) ?_
      have e : decide ([r[j]'(by omega)] = [46]) = fre rs i j := by
        unfold fre cell
        rw [hr]
        show _ = decide (r[j]? = some 46)
        rw [hj]
        exact decide_eq_decide.mpr ⟨fun h => by injection h with h; rw [h], fun h => by injection h with h; rw [h]⟩
      rw [e]
      exact q
    · repeat walk_at "mst"
      exact no fun h => by omega
  · repeat walk_at "mst"
    exact no fun h => by omega
theorem use_freeZ {K : PySem.W.Frag} {H : Hp} {Q : VK} {E : XK} {b : Addr} {rs : Fl} {w : Nat} {i j : Int} (h : FlAt K H b rs) (ok : OkF rs w) (q : Q (.bl (freZ rs i j)) H) : sp_Floor_p_is_free K (.ref b :: ([.int i, .int j] ++ [])) H Q E := ⟨b, rs, w, i, j, rfl, h, ok, q⟩
theorem use_free {K : PySem.W.Frag} {H : Hp} {Q : VK} {E : XK} {b : Addr} {rs : Fl} {w i j : Nat} (h : FlAt K H b rs) (ok : OkF rs w) (q : Q (.bl (fre rs i j)) H) : sp_Floor_p_is_free K (.ref b :: ([.int (i : Int), .int (j : Int)] ++ [])) H Q E := ⟨b, rs, w, i, j, rfl, h, ok, by rw [freZ_nat]; exact q⟩
def sgs (r : List Nat) : List V := r.map fun c => V.str (tx [c])
theorem sgs_inj {a b : List Nat} (h : sgs a = sgs b) : a = b := by
  unfold sgs at h
  induction a generalizing b with
  | nil => cases b with | nil => rfl | cons _ _ => cases h
  | cons c a ih =>
    cases b with
    | nil => cases h
    | cons d b =>
      injection h with h1 h2
      injection h1 with h1
      have := tx_inj.mp h1
      injection this with h3
      rw [h3, ih h2]
structure GL (H0 H : Hp) (D : Addr) (as : List Addr) (rs : Fl) : Prop where
  d : H D = some (.lst (as.map V.ref))
  nd : ∀ (i k : Nat) (a : Addr), as[i]? = some a → as[k]? = some a → i = k
  ne : D ∉ as
  fr : H0 D = none
  fa : ∀ a ∈ as, H0 a = none
  len : as.length = rs.length
  at_ : ∀ (i : Nat) (r : List Nat), rs[i]? = some r → ∃ a, as[i]? = some a ∧ H a = some (.lst (sgs r))
theorem GL.set {H0 H : Hp} {D : Addr} {as : List Addr} {rs : Fl} (g : GL H0 H D as rs) {i j : Nat} {r : List Nat} {a : Addr} (hr : rs[i]? = some r) (ha : as[i]? = some a) : GL H0 (upd H a (.lst (sgs (r.set j 35)))) D as (cov rs i j) := by
  have ma : a ∈ as := List.mem_of_getElem? ha
  have nD : D ≠ a := fun h => g.ne (h ▸ ma)
  have ec : cov rs i j = rs.set i (r.set j 35) := by unfold cov; rw [List.getD_eq_getElem?_getD, hr]; rfl
  refine ⟨(upd_ne nD).trans g.d, g.nd, g.ne, g.fr, g.fa, by rw [ec, List.length_set]; exact g.len, fun k q hq => ?_⟩
  rw [ec] at hq
  rcases Nat.decEq i k with h | h
  · rw [List.getElem?_set_ne h] at hq
    obtain ⟨b, hb, hl⟩ := g.at_ k q hq
    refine ⟨b, hb, (upd_ne fun e => ?_).trans hl⟩
    subst e
    exact h (g.nd _ _ _ ha hb)
  · subst h
    rw [List.getElem?_set_self (List.getElem?_eq_some_iff.mp hr).1] at hq
    cases hq
    exact ⟨a, ha, upd_same⟩
theorem GL.add {H0 H : Hp} {D u : Addr} {as : List Addr} {rs : Fl} {r : List Nat} (g : GL H0 H D as rs) (e : Ex H0 H) (nu : H u = none) : GL H0 (upd (upd H u (.lst (sgs r))) D (.lst ((as.map V.ref) ++ [.ref u]))) D (as ++ [u]) (rs ++ [r]) := by
  have al : ∀ a ∈ as, a ≠ u ∧ a ≠ D := fun a m => by
    obtain ⟨i, hi⟩ := List.getElem?_of_mem m
    have li := (List.getElem?_eq_some_iff.mp hi).1
    have lr : i < rs.length := by have := g.len; omega
    obtain ⟨b, hb, hl⟩ := g.at_ i rs[i] (List.getElem?_eq_getElem lr)
    rw [hi] at hb
    cases hb
    exact ⟨fun h => (by subst h; rw [nu] at hl; cases hl), fun h => g.ne (h ▸ m)⟩
  have nD : D ≠ u := fun h => by have := g.d; rw [h, nu] at this; cases this
  refine ⟨by rw [upd_same, List.map_append]; rfl, ?_, ?_, g.fr, ?_, by rw [List.length_append, List.length_append, g.len]; rfl, fun i q hq => ?_⟩
  · intro i k a h1 h2
    rcases get_snoc2 h1 with h1 | ⟨e1, r1⟩
    · rcases get_snoc2 h2 with h2 | ⟨e2, r2⟩
      · exact g.nd i k a h1 h2
      · exact absurd r2 (al a (List.mem_of_getElem? h1)).1
    · rcases get_snoc2 h2 with h2 | ⟨e2, r2⟩
      · exact absurd r1 (al a (List.mem_of_getElem? h2)).1
      · exact e1.trans e2.symm
  · intro m
    rcases List.mem_append.mp m with m | m
    · exact g.ne m
    · rw [List.mem_singleton] at m; exact nD m
  · intro a m
    rcases List.mem_append.mp m with m | m
    · exact g.fa a m
    · rw [List.mem_singleton] at m; subst m; exact Evl.fresh_back e nu
  · rcases get_snoc2 hq with hq | ⟨ei, rfl⟩
    · obtain ⟨a, ha, hl⟩ := g.at_ i q hq
      have ma := List.mem_of_getElem? ha
      refine ⟨a, by rw [List.getElem?_append_left (List.getElem?_eq_some_iff.mp ha).1]; exact ha, ?_⟩
      rw [upd_ne (al a ma).2, upd_ne (al a ma).1]
      exact hl
    · refine ⟨u, by rw [ei, ← g.len, List.getElem?_append_right (Nat.le_refl _), Nat.sub_self]; rfl, ?_⟩
      rw [upd_ne nD.symm]
      exact upd_same
def sp_Floor_p_covered (K : PySem.W.Frag) : Sp := fun vs H Q _ => ∃ (b cs p1 p2 : Addr) (rs : Fl) (w i j i2 j2 : Nat), vs = [.ref b, .ref cs] ∧ FlAt K H b rs ∧ OkF rs w ∧ H cs = some (.lst [.ref p1, .ref p2]) ∧ H p1 = some (.tup [.int (i : Int), .int (j : Int)]) ∧ H p2 = some (.tup [.int (i2 : Int), .int (j2 : Int)]) ∧ (i < rs.length ∧ j < w) ∧ (i2 < rs.length ∧ j2 < w) ∧
  ∀ x H', H x = none → Ex H H' → FlAt K H' x (cov (cov rs i j) i2 j2) → Q (.ref x) H'
local macro_rules | `(tactic| walk_at "mlk") => `(tactic| exact gfl_get _)
abbrev N_Floor_p_covered : List Str := ["self", "cells", "rows", "row", "column"]
def t_Floor_p_covered (K : PySem.W.Frag) (E : XK) : TS := (tSeq (tAsg (tLc (iTup K (tFld K (tVar 0) "_rows")) (gName 3) tYes (tCB rListS (tCons (tVar 3) tNil)) [3]) (gName 2)) (tSeq (tFor (iList K (tVar 1)) (gTup K 2 (gCons (gName 3) (gCons (gName 4) gNil))) (tAsg (tC (.str "#")) (gSub (tOp (rIxL K) (tVar 2) (tVar 3)) (tVar 4) L2.rSetL))) (tRet (tMake (He.ga K "Floor") (sp_Floor_d_init K) [] E0 (tCons (tLc (iList K (tVar 2)) (gName 3) tYes (tBM K "str" (rJoinS K) (tC (.str "")) (tCons (tVar 3) tNil)) [3]) tNil)))))
theorem len_Floor_p_covered {K : PySem.W.Frag} {vs : List V} {H : Hp} {Q : VK} {E : XK} (h : sp_Floor_p_covered K vs H Q E) : vs.length = 2 := by
  obtain ⟨_, _, _, _, _, _, _, _, _, _, rfl, _⟩ := h; rfl
theorem pure_Floor_p_covered {K : PySem.W.Frag} (F : FFloor K) (vs : List V) (H : Hp) (Q : VK) (E : XK) (h : sp_Floor_p_covered K vs H Q E) : t_Floor_p_covered K E { nx := fun _ H' => Q .non H', rt := Q } (start N_Floor_p_covered vs) H := by
  obtain ⟨b, cs, p1, p2, rs, w, i, j, i2, j2, rfl, ⟨dx, t, hb, ht⟩, ok, hcs, hp1, hp2, in1, in2, q⟩ := h
  unfold t_Floor_p_covered
  obtain ⟨cl, na⟩ := F
  have n6 := ok.n6
  have w6 := ok.w6
  have hl := rowsV_len rs
  repeat walk_at "mst"
  refine ⟨t, rfl, ⟨_, k_st ht⟩, ?_⟩
  intro D hD
  refine lc_tup (K := K) (a := t) (xs := rowsV rs) (fun k H' => Ex H H' ∧ ∃ as, GL H H' D as (rs.take k)) ⟨Evl.Ex.new hD, [], upd_same, fun i k a h => (by cases h), (fun m => by cases m), hD, fun a m => (by cases m), rfl, fun i r h => (by cases h)⟩ (fun k H' _ p => Evl.ex_t p.1 (k_st ht)) (fun k x H' hx p => ?_) (fun H1 p => ?_)
  · obtain ⟨e, as, g⟩ := p
    have hk : k < rs.length := by rw [← hl]; exact (List.getElem?_eq_some_iff.mp hx).1
    obtain ⟨r, hr, o⟩ := ok.at hk
    rw [rowsV_at hr] at hx
    cases hx
    have lr := o.1
    repeat walk_at "mst"
    refine ⟨rfl, ?_⟩
    unfold tYes
    repeat walk_at "mst"
    refine ⟨tx r, rfl, by rw [tx_size]; omega, fun u nu => ?_⟩
    rw [tx_cps, map_sign]
    have nD : D ≠ u := fun h => by have := g.d; rw [h, nu] at this; cases this
    refine ⟨as.map V.ref, (upd_ne nD).trans g.d, fits' (by rw [List.length_map, g.len, List.length_take]; omega), Evl.Ex.mut (e.trans (Evl.Ex.new nu)) hD, as ++ [u], ?_⟩
    rw [List.take_add_one, hr]
    exact g.add e nu
  · obtain ⟨e, as, g⟩ := p
    rw [hl, List.take_of_length_le (Nat.le_refl _)] at g
    repeat walk_at "mst"
    let st : Nat → Fl := fun k => match k with
      | 0 => rs
      | 1 => cov rs i j
      | _ + 2 => cov (cov rs i j) i2 j2
    have items : ∀ (k : Nat) (x : V), [V.ref p1, V.ref p2][k]? = some x → ∃ pa ii jj, x = .ref pa ∧ H pa = some (.tup [.int ((ii : Nat) : Int), .int ((jj : Nat) : Int)]) ∧ (ii < rs.length ∧ jj < w) ∧ st (k + 1) = cov (st k) ii jj := by
      intro k x hx
      match k, hx with
      | 0, hx => cases hx; exact ⟨p1, i, j, rfl, hp1, in1, rfl⟩
      | 1, hx => cases hx; exact ⟨p2, i2, j2, rfl, hp2, in2, rfl⟩
      | k + 2, hx => cases hx
    have okc : OkF (cov rs i j) w := cov_ok ok in1.1
    have lc1 : (cov rs i j).length = rs.length := List.length_set
    have okk : ∀ k, OkF (st k) w ∧ (st k).length = rs.length := by
      intro k
      match k with
      | 0 => exact ⟨ok, rfl⟩
      | 1 => exact ⟨okc, lc1⟩
      | k + 2 => exact ⟨cov_ok okc (by rw [lc1]; exact in2.1), by show (cov (cov rs i j) i2 j2).length = _; unfold cov at lc1 ⊢; rw [List.length_set]; exact lc1⟩
    refine ⟨cs, rfl, ⟨_, k_sq (e _ _ hcs)⟩, forK_list (xs := [V.ref p1, V.ref p2]) (fun k σ H' => Ex H H' ∧ ∃ x3 x4 : Option V, GL H H' D as (st k) ∧ σ = [some (.ref b), some (.ref cs), some (.ref D), x3, x4]) ⟨e, none, none, g, rfl⟩ ?_ ?_ ?_⟩
    · rintro k σ H' _ ⟨e, _⟩; exact k_sq (e _ _ hcs)
    · rintro k x σ H2 hx ⟨e2, x3, x4, g2, rfl⟩
      obtain ⟨pa, ii, jj, rfl, hpa, inr, est⟩ := items k x hx
      obtain ⟨okst, lst⟩ := okk k
      obtain ⟨r, hr, o⟩ := okst.at (i := ii) (by omega)
      obtain ⟨a, ha, hla⟩ := g2.at_ ii r hr
      have lr := o.1
      refine k_gtup (k_st (e2 _ _ hpa)) rfl ?_
      repeat walk_at "mst"
      refine k_ixL (k_sq g2.d) (atI_nat (j := ii) (v := V.ref a) (by rw [List.getElem?_map, ha]; rfl)) ?_
      repeat walk_at "mst"
      refine ⟨a, _, jj, jj, rfl, rfl, hla, by unfold ixN sgs; rw [if_pos (by omega), if_pos (by rw [List.length_map]; omega), Int.toNat_natCast], ?_⟩
      have es : (sgs r).set jj (.str "#") = sgs (r.set jj 35) := (List.map_set (f := fun c => V.str (tx [c])) (l := r) (i := jj) (a := 35)).symm
      rw [es]
      refine ⟨Evl.Ex.mut e2 (g2.fa a (List.mem_of_getElem? ha)), _, _, ?_, rfl⟩
      rw [est]
      exact g2.set hr ha
    · rintro σ H2 ⟨e2, x3, x4, g2, rfl⟩
      obtain ⟨okst, lst⟩ := okk 2
      have g2 : GL H H2 D as (st 2) := g2
      have lasl := g2.len
      repeat walk_at "mst"
      refine ⟨D, rfl, ⟨_, k_sq g2.d⟩, lcQ_list (xs := as.map V.ref) (fun x y _ => ∀ a r, x = .ref a → H2 a = some (.lst (sgs r)) → y = .str (tx r)) (fun _ _ _ _ h _ => h) (k_sq g2.d) (fits' (by rw [List.length_map]; omega)) ?_ ?_⟩
      · intro k x hx H3 e3 RR rr
        rw [List.getElem?_map] at hx
        obtain ⟨a, ha, rfl⟩ := Option.map_eq_some_iff.mp hx
        have hk := (List.getElem?_eq_some_iff.mp ha).1
        obtain ⟨r, hr, o⟩ := okst.at (i := k) (by omega)
        obtain ⟨a', ha', hla⟩ := g2.at_ k r hr
        rw [ha] at ha'
        cases ha'
        have lr := o.1
        repeat walk_at "mst"
        refine ⟨rfl, ?_⟩
        unfold tYes
        repeat walk_at "mst"
        refine k_tyX ?_
        repeat walk_at "mst"
        refine k_joinX (l := r) (k_sq (e3 _ _ hla)) (by omega) ?_
        refine rr _ _ (Evl.Ex.refl _) fun a2 r2 ea h2 => ?_
        cases ea
        rw [hla] at h2
        injection h2 with h2
        injection h2 with h2
        rw [sgs_inj h2]
      · intro D2 ys H3 hD2 e3 hd yl ok2
        have es : ys = rowsV (st 2) := by
          refine List.ext_getElem? fun k => ?_
          rcases Nat.lt_or_ge k (st 2).length with c | c
          · obtain ⟨r, hr, o⟩ := okst.at (i := k) c
            obtain ⟨a, ha, hla⟩ := g2.at_ k r hr
            obtain ⟨y, hy, ey⟩ := ok2 k (.ref a) (by rw [List.getElem?_map, ha]; rfl)
            rw [hy, ey a r rfl hla, rowsV_at hr]
          · rw [List.getElem?_eq_none (by rw [yl, List.length_map]; omega), List.getElem?_eq_none (by rw [rowsV_len]; exact c)]
        rw [es] at hd
        have e23 := e2.trans e3
        repeat walk_at "mst"
        refine mk_fl (k_sq hd) okst fun x H5 nx e5 hx => ?_
        repeat walk_at "mst"
        exact q x H5 (Evl.fresh_back e23 nx) (e23.trans e5) hx
theorem use_covered {K : PySem.W.Frag} {H : Hp} {Q : VK} {E : XK} {b cs p1 p2 : Addr} {rs : Fl} {w i j i2 j2 : Nat} (h : FlAt K H b rs) (ok : OkF rs w) (hcs : H cs = some (.lst [.ref p1, .ref p2])) (h1 : H p1 = some (.tup [.int (i : Int), .int (j : Int)])) (h2 : H p2 = some (.tup [.int (i2 : Int), .int (j2 : Int)])) (in1 : i < rs.length ∧ j < w) (in2 : i2 < rs.length ∧ j2 < w)
    (q : ∀ x H', H x = none → Ex H H' → FlAt K H' x (cov (cov rs i j) i2 j2) → Q (.ref x) H') : sp_Floor_p_covered K (.ref b :: ([.ref cs] ++ [])) H Q E := ⟨b, cs, p1, p2, rs, w, i, j, i2, j2, rfl, h, ok, hcs, h1, h2, in1, in2, q⟩
theorem mvsL_cells (s : Str) (w : Nat) (rs : Fl) : mvsL s w rs = (cellL rs.length w).flatMap fun c => mvAtL s rs c.1 c.2 := by
  unfold mvsL cellL
  rw [List.flatMap_assoc]
  congr 1
  funext i
  rw [List.flatMap_map]
theorem flat_len2 {α β : Type} (f : α → List β) (h : ∀ a, (f a).length ≤ 1) : ∀ l : List α, (l.flatMap f).length ≤ l.length
  | [] => Nat.le_refl _
  | a :: l => by
    rw [List.flatMap_cons, List.length_append, List.length_cons]
    have := h a
    have := flat_len2 f h l
    omega
def sp_Floor_m_moves (K : PySem.W.Frag) : Sp := fun vs H Q _ => ∃ (b : Addr) (s : Str) (rs : Fl) (w : Nat), vs = [.ref b, .str s] ∧ (s = "left" ∨ s = "right") ∧ FlAt K H b rs ∧ OkF rs w ∧ ∀ p ys H', H p = none → Ex H H' → H' p = some (.lst ys) → BsL K H' ys (mvsL s w rs) → Q (.ref p) H'
local macro_rules | `(tactic| walk_at "mlk") => `(tactic| exact gfl_get _)
local macro_rules | `(tactic| walk_at "new") => `(tactic| ((first | refine ⟨fits (Nat.le_of_ble_eq_true rfl), ?_⟩ | skip); intro p np; generalize hq : upd _ p _ = H1; have e1 := nx np hq; have s1 := nS hq; clear hq))
abbrev N_Floor_m_moves : List Str := ["self", "side", "down", "right", "found", "row", "column", "second"]
def t_Floor_m_moves (K : PySem.W.Frag) (E : XK) : TS := (tSeq (tAsg (tOp (rKD K (He.ga K "SHAPES")) (tC (.ref (He.ga K "SHAPES"))) (tVar 1)) (gTup K 2 (gCons (gName 2) (gCons (gName 3) gNil)))) (tSeq (tAsg (tLst tNil) (gName 4)) (tSeq (tFor (iList K (tMeth (He.ga K "Floor") "_cells" (sp_Floor_p_cells K) [] E0 (tVar 0) tNil)) (gTup K 2 (gCons (gName 5) (gCons (gName 6) gNil))) (tSeq (tAsg (tTup (tCons (tOp rAddI (tVar 5) (tVar 2)) (tCons (tOp rAddI (tVar 6) (tVar 3)) tNil))) (gName 7)) (tIfS (tAnd (tB (tMeth (He.ga K "Floor") "_is_free" (sp_Floor_p_is_free K) [] E0 (tVar 0) (tCons (tVar 5) (tCons (tVar 6) tNil)))) (tB (tMeth (He.ga K "Floor") "_is_free" (sp_Floor_p_is_free K) [] E0 (tVar 0) (tCons (tOp (rIxT K) (tVar 7) (tC (.int 0))) (tCons (tOp (rIxT K) (tVar 7) (tC (.int 1))) tNil))))) (tDrop (tBM K "list" rAppend (tVar 4) (tCons (tMeth (He.ga K "Floor") "_covered" (sp_Floor_p_covered K) [] E0 (tVar 0) (tCons (tLst (tCons (tTup (tCons (tVar 5) (tCons (tVar 6) tNil))) (tCons (tVar 7) tNil))) tNil)) tNil))) tNext))) (tRet (tVar 4)))))
theorem len_Floor_m_moves {K : PySem.W.Frag} {vs : List V} {H : Hp} {Q : VK} {E : XK} (h : sp_Floor_m_moves K vs H Q E) : vs.length = 2 := by
  obtain ⟨_, _, _, _, rfl, _⟩ := h; rfl
theorem pure_Floor_m_moves {K : PySem.W.Frag} (F : FFloor K) (G : FSHAPES K) (vs : List V) (H : Hp) (Q : VK) (E : XK) (h : sp_Floor_m_moves K vs H Q E) : t_Floor_m_moves K E { nx := fun _ H' => Q .non H', rt := Q } (start N_Floor_m_moves vs) H := by
  obtain ⟨b, s, rs, w, rfl, hs, hB, ok, q⟩ := h
  obtain ⟨dx, t, hb, ht⟩ := id hB
  have mv : PySem.W.nsIn K (He.ga K "SHAPES") s = some (some (.ref (kdA K "SHAPES" s))) ∧ ∀ H, SqT K H (kdA K "SHAPES" s) [.int ((dnF s : Nat) : Int), .int ((rtF s : Nat) : Int)] := by
    rcases hs with rfl | rfl
    · exact G.l
    · exact G.r
  unfold t_Floor_m_moves
  obtain ⟨cl, na⟩ := F
  have n6 := ok.n6
  have w6 := ok.w6
  repeat walk_at "mst"
  refine k_kd mv ?_
  refine k_gtup (mv.2 H) rfl ?_
  repeat walk_at "mst"
  walk_at "new"; rename_i fp nfp H1 e1 s1
  have hb1 := e1 _ _ hb
  repeat walk_at "mst"
  refine ⟨b, dx, _, rfl, hb1, gfl_no _ (by decide +kernel), ?_⟩
  repeat walk_at "mst"
  refine use_cells (hB.ex e1) ok fun C cs H2 nC e2 hC ac => ?_
  have f2 := e2 _ _ s1
  have cl36 : cs.length ≤ 36 := by
    rw [ac.1, cellL_len]
    exact Nat.mul_le_mul n6 w6
  have nCf : C ≠ fp := fun h => by rw [h, s1] at nC; cases nC
  refine ⟨C, rfl, ⟨_, k_sq hC⟩, forK_list (xs := cs) (fun k σ H' => ∃ (zs : List V) (x5 x6 x7 : Option V), (∀ c o, H2 c = some o → c ≠ fp → H' c = some o) ∧ H' fp = some (.lst zs) ∧ BsL K H' zs (((cellL rs.length w).take k).flatMap fun c => mvAtL s rs c.1 c.2) ∧ σ = [some (.ref b), some (.str s), some (.int ((dnF s : Nat) : Int)), some (.int ((rtF s : Nat) : Int)), some (.ref fp), x5, x6, x7]) ⟨[], none, none, none, fun _ _ h _ => h, f2, .nil, rfl⟩ ?_ ?_ ?_⟩
  · rintro k σ H3 _ ⟨zs, x5, x6, x7, kp, _⟩; exact k_sq (kp _ _ hC nCf)
  · rintro k x σ H3 hx ⟨zs, x5, x6, x7, kp, hf, bs, rfl⟩
    have hk := (List.getElem?_eq_some_iff.mp hx).1
    have hc : (cellL rs.length w)[k]? = some ((cellL rs.length w)[k]'(by rw [← ac.1]; exact hk)) := List.getElem?_eq_getElem _
    generalize (cellL rs.length w)[k]'(by rw [← ac.1]; exact hk) = c at hc
    obtain ⟨i, j⟩ := c
    obtain ⟨y, hy, a, rfl, ha⟩ := ac.2 k _ hc
    rw [hx] at hy
    cases hy
    have naf : a ≠ fp := fun h => by subst h; rw [f2] at ha; cases ha
    have ha3 := kp _ _ ha naf
    have kpH : Ex H H3 := fun c o z => kp c o (e2 _ _ (e1 _ _ z)) (ne_of_none z nfp)
    have rsn : ((cellL rs.length w).take (k + 1)).flatMap (fun c => mvAtL s rs c.1 c.2) = ((cellL rs.length w).take k).flatMap (fun c => mvAtL s rs c.1 c.2) ++ mvAtL s rs i j := by
      rw [List.take_add_one, hc, List.flatMap_append]
      simp
    have zl : zs.length ≤ 36 := by
      rw [bs.1]
      have := flat_len2 (fun c : Nat × Nat => mvAtL s rs c.1 c.2) (fun c => mvAtL_len s rs c.1 c.2) ((cellL rs.length w).take k)
      have h2 : ((cellL rs.length w).take k).length ≤ 36 := by rw [List.length_take, ← ac.1]; omega
      omega
    rw [rsn]
    refine k_gtup (k_st ha3) rfl ?_
    repeat walk_at "mst"
    rw [show (i : Int) + ((dnF s : Nat) : Int) = ((i + dnF s : Nat) : Int) by omega, show (j : Int) + ((rtF s : Nat) : Int) = ((j + rtF s : Nat) : Int) by omega]
    walk_at "new"; rename_i sp nsp H4 e4 s4
    have kpH4 := kpH.trans e4
    have hf4 := e4 _ _ hf
    repeat walk_at "mst"
    refine ⟨b, dx, _, rfl, kpH4 _ _ hb, gfl_no _ (by decide +kernel), ?_⟩
    repeat walk_at "mst"
    refine use_free (hB.ex kpH4) ok ?_
    have skip : mvAtL s rs i j = [] → ∃ (zs' : List V) (x5 x6 x7 : Option V), (∀ c o, H2 c = some o → c ≠ fp → H4 c = some o) ∧ H4 fp = some (.lst zs') ∧ BsL K H4 zs' (((cellL rs.length w).take k).flatMap (fun c => mvAtL s rs c.1 c.2) ++ mvAtL s rs i j) ∧ [some (V.ref b), some (.str s), some (.int ((dnF s : Nat) : Int)), some (.int ((rtF s : Nat) : Int)), some (.ref fp), some (.int (i : Int)), some (.int (j : Int)), some (.ref sp)] = [some (.ref b), some (.str s), some (.int ((dnF s : Nat) : Int)), some (.int ((rtF s : Nat) : Int)), some (.ref fp), x5, x6, x7] := fun em => by
      rw [em, List.append_nil]
      exact ⟨zs, _, _, _, fun c o z n => e4 _ _ (kp c o z n), hf4, bs.imp fun y c q => q.ex e4, rfl⟩
    cases f1 : fre rs i j
    · repeat walk_at "mst"
      exact skip (by unfold mvAtL; rw [if_neg fun h => by rw [f1] at h; exact Bool.noConfusion h.1])
    repeat walk_at "mst"
    refine ⟨b, dx, _, rfl, kpH4 _ _ hb, gfl_no _ (by decide +kernel), ?_⟩
    repeat walk_at "mst"
    refine use_free (hB.ex kpH4) ok ?_
    cases g1 : fre rs (i + dnF s) (j + rtF s)
    · repeat walk_at "mst"
      exact skip (by unfold mvAtL; rw [if_neg fun h => by rw [g1] at h; exact Bool.noConfusion h.2])
    have em : mvAtL s rs i j = [cov (cov rs i j) (i + dnF s) (j + rtF s)] := by unfold mvAtL; rw [if_pos ⟨f1, g1⟩]
    rw [em]
    repeat walk_at "mst"
    refine ⟨b, dx, _, rfl, kpH4 _ _ hb, gfl_no _ (by decide +kernel), ?_⟩
    repeat walk_at "mst"
    walk_at "new"; rename_i u1 nu1 H5 e5 s5
    repeat walk_at "mst"
    walk_at "new"; rename_i u2 nu2 H6 e6 s6
    have e46 := e5.trans e6
    repeat walk_at "mst"
    refine use_covered (hB.ex (kpH4.trans e46)) ok s6 (e6 _ _ s5) (e46 _ _ s4) (fre_in ok f1) (fre_in ok g1) fun x H7 nx e7 hx => ?_
    have e47 := e46.trans e7
    have hf7 := e47 _ _ hf4
    have bs7 := (bs.imp fun y c q => q.ex (e4.trans e47)).app (.one (P := FlV K) ⟨x, rfl, hx⟩)
    repeat walk_at "mst"
    · exact fits' (by omega)
    refine ⟨zs ++ [V.ref x], _, _, _, fun c o z n => (upd_ne n).trans (e47 _ _ (e4 _ _ (kp c o z n))), upd_same, ?_, rfl⟩
    exact bs7.imp fun y c q => q.keep (H' := upd H7 fp (HO.lst (zs ++ [V.ref x]))) fun c o q n => (upd_ne fun e => n _ (by rw [e, hf7] at q; exact (Option.some.inj q).symm)).trans q
  · rintro σ H3 ⟨zs, x5, x6, x7, kp, hf, bs, rfl⟩
    rw [List.take_of_length_le (by rw [← ac.1]; exact Nat.le_refl _), ← mvsL_cells] at bs
    repeat walk_at "mst"
    exact q fp zs H3 nfp (fun c o z => kp c o (e2 _ _ (e1 _ _ z)) (ne_of_none z nfp)) hf bs
theorem use_flmoves {K : PySem.W.Frag} {H : Hp} {Q : VK} {E : XK} {b : Addr} {s : Str} {rs : Fl} {w : Nat} (hs : s = "left" ∨ s = "right") (h : FlAt K H b rs) (ok : OkF rs w) (q : ∀ p ys H', H p = none → Ex H H' → H' p = some (.lst ys) → BsL K H' ys (mvsL s w rs) → Q (.ref p) H') : sp_Floor_m_moves K (.ref b :: ([.str s] ++ [])) H Q E := ⟨b, s, rs, w, rfl, hs, h, ok, q⟩
def sp_Frogs_p_sign (K : PySem.W.Frag) : Sp := fun vs H Q _ => ∃ (b : Addr) (l : List Nat) (i : Int), vs = [.ref b, .int i] ∧ FgAt K H b l ∧ l.length ≤ 12 ∧ Q (sgV (atL l i)) H
local macro_rules | `(tactic| walk_at "mlk") => `(tactic| exact gfs_get _)
abbrev N_Frogs_p_sign : List Str := ["self", "place"]
def t_Frogs_p_sign (K : PySem.W.Frag) (E : XK) : TS := (tRet (tIf (tTest (tChain rLeI rLtI (tC (.int 0)) (tVar 1) (tCB rLenS (tCons (tFld K (tVar 0) "_line") tNil)))) (tOp rIxS (tFld K (tVar 0) "_line") (tVar 1)) (tC .non)))
theorem len_Frogs_p_sign {K : PySem.W.Frag} {vs : List V} {H : Hp} {Q : VK} {E : XK} (h : sp_Frogs_p_sign K vs H Q E) : vs.length = 2 := by
  obtain ⟨_, _, _, rfl, _⟩ := h; rfl
theorem pure_Frogs_p_sign {K : PySem.W.Frag} (F : FFrogs K) (vs : List V) (H : Hp) (Q : VK) (E : XK) (h : sp_Frogs_p_sign K vs H Q E) : t_Frogs_p_sign K E { nx := fun _ H' => Q .non H', rt := Q } (start N_Frogs_p_sign vs) H := by
  obtain ⟨b, l, i, rfl, ⟨dx, hb⟩, l12, q⟩ := h
  unfold t_Frogs_p_sign
  obtain ⟨cl, na⟩ := F
  repeat walk_at "mst"
  refine k_iteD (fun z => ?_) (fun z => ?_)
  · repeat walk_at "mst"
    refine k_lenX (by omega) ?_
    repeat walk_at "mst"
    refine k_iteD (fun z2 => ?_) (fun z2 => ?_)
    · repeat walk_at "mst"
      have li : i.toNat < l.length := by omega
      have e : atL l i = some l[i.toNat] := by unfold atL; rw [if_pos z, List.getElem?_eq_getElem li]
      rw [e] at q
      have ei : ((i.toNat : Nat) : Int) = i := by omega
      have ea : atI l ((i.toNat : Nat) : Int) = some l[i.toNat] := atI_nat (List.getElem?_eq_getElem li)
      rw [ei] at ea
      exact k_ixX (by omega) ea q
    · repeat walk_at "mst"
      have e : atL l i = none := by unfold atL; rw [if_pos z, List.getElem?_eq_none (by omega)]
      rw [e] at q
      exact q
  · repeat walk_at "mst"
    have e : atL l i = none := by unfold atL; rw [if_neg z]
    rw [e] at q
    exact q
theorem use_fsign {K : PySem.W.Frag} {H : Hp} {Q : VK} {E : XK} {b : Addr} {l : List Nat} {i : Int} (h : FgAt K H b l) (l12 : l.length ≤ 12) (q : Q (sgV (atL l i)) H) : sp_Frogs_p_sign K (.ref b :: ([.int i] ++ [])) H Q E := ⟨b, l, i, rfl, h, l12, q⟩
def sp_Frogs_p_target (K : PySem.W.Frag) : Sp := fun vs H Q _ => ∃ (b : Addr) (l : List Nat) (p j : Nat) (st : Int), vs = [.ref b, .int (p : Int), .str (tx [j]), .int st] ∧ FgAt K H b l ∧ l.length ≤ 12 ∧ Q (tgV (tgG l p j st)) H
abbrev N_Frogs_p_target : List Str := ["self", "place", "jumped", "step", "beside"]
def t_Frogs_p_target (K : PySem.W.Frag) (E : XK) : TS := (tSeq (tAsg (tMeth (He.ga K "Frogs") "_sign" (sp_Frogs_p_sign K) [] E0 (tVar 0) (tCons (tOp rAddI (tVar 1) (tVar 3)) tNil)) (gName 4)) (tSeq (tIfS (tTest (tOp rEq (tVar 4) (tC (.str ".")))) (tRet (tOp rAddI (tVar 1) (tVar 3))) tNext) (tSeq (tIfS (tAnd (tTest (tOp rEq (tVar 4) (tVar 2))) (tTest (tOp rEq (tMeth (He.ga K "Frogs") "_sign" (sp_Frogs_p_sign K) [] E0 (tVar 0) (tCons (tOp rAddI (tVar 1) (tOp rMulI (tC (.int 2)) (tVar 3))) tNil)) (tC (.str "."))))) (tRet (tOp rAddI (tVar 1) (tOp rMulI (tC (.int 2)) (tVar 3)))) tNext) (tRet (tC .non)))))
theorem len_Frogs_p_target {K : PySem.W.Frag} {vs : List V} {H : Hp} {Q : VK} {E : XK} (h : sp_Frogs_p_target K vs H Q E) : vs.length = 4 := by
  obtain ⟨_, _, _, _, _, rfl, _⟩ := h; rfl
theorem pure_Frogs_p_target {K : PySem.W.Frag} (vs : List V) (H : Hp) (Q : VK) (E : XK) (h : sp_Frogs_p_target K vs H Q E) : t_Frogs_p_target K E { nx := fun _ H' => Q .non H', rt := Q } (start N_Frogs_p_target vs) H := by
  obtain ⟨b, l, p, j, st, rfl, hB, l12, q⟩ := h
  obtain ⟨dx, hb⟩ := id hB
  unfold t_Frogs_p_target
  repeat walk_at "mst"
  refine ⟨b, dx, _, rfl, hb, gfs_no _ (by decide +kernel), ?_⟩
  repeat walk_at "mst"
  refine use_fsign hB l12 ?_
  repeat walk_at "mst"
  refine k_eqSg (d := 46) ?_
  unfold tgG at q
  repeat walk_at "mst"
  refine k_iteD (fun z => ?_) (fun z => ?_)
  · rw [if_pos z] at q
    repeat walk_at "mst"
    exact q
  · rw [if_neg z] at q
    repeat walk_at "mst"
    refine k_eqSg (d := j) ?_
    repeat walk_at "mst"
    refine k_iteD (fun z2 => ?_) (fun z2 => ?_)
    · repeat walk_at "mst"
      refine ⟨b, dx, _, rfl, hb, gfs_no _ (by decide +kernel), ?_⟩
      repeat walk_at "mst"
      refine use_fsign hB l12 ?_
      repeat walk_at "mst"
      refine k_eqSg (d := 46) ?_
      repeat walk_at "mst"
      refine k_iteD (fun z3 => ?_) (fun z3 => ?_)
      · rw [if_pos ⟨z2, z3⟩] at q
        repeat walk_at "mst"
        exact q
      · rw [if_neg (fun h => z3 h.2)] at q
        repeat walk_at "mst"
        exact q
    · rw [if_neg (fun h => z2 h.1)] at q
      repeat walk_at "mst"
      exact q
theorem use_ftarget {K : PySem.W.Frag} {H : Hp} {Q : VK} {E : XK} {b : Addr} {l : List Nat} {p j : Nat} {st : Int} (h : FgAt K H b l) (l12 : l.length ≤ 12) (q : Q (tgV (tgG l p j st)) H) : sp_Frogs_p_target K (.ref b :: ([.int (p : Int), .str (tx [j]), .int st] ++ [])) H Q E := ⟨b, l, p, j, st, rfl, h, l12, q⟩
def sp_Frogs_p_moved (K : PySem.W.Frag) : Sp := fun vs H Q _ => ∃ (b : Addr) (l : List Nat) (p q c : Nat), vs = [.ref b, .int (p : Int), .int (q : Int)] ∧ FgAt K H b l ∧ OkL l ∧ l[p]? = some c ∧ q < l.length ∧ OkL ((l.set p 46).set q c) ∧ ∀ x H', H x = none → Ex H H' → FgAt K H' x ((l.set p 46).set q c) → Q (.ref x) H'
local macro_rules | `(tactic| walk_at "mlk") => `(tactic| exact gfs_get _)
local macro_rules | `(tactic| walk_at "new") => `(tactic| ((first | refine ⟨fits (Nat.le_of_ble_eq_true rfl), ?_⟩ | skip); intro p np; generalize hq : upd _ p _ = H1; have e1 := nx np hq; have s1 := nS hq; clear hq))
abbrev N_Frogs_p_moved : List Str := ["self", "place", "target", "signs"]
def t_Frogs_p_moved (K : PySem.W.Frag) (E : XK) : TS := (tSeq (tAsg (tCB rListS (tCons (tFld K (tVar 0) "_line") tNil)) (gName 3)) (tSeq (tAsg (tTup (tCons (tC (.str ".")) (tCons (tOp (rIxL K) (tVar 3) (tVar 1)) tNil))) (gTup K 2 (gCons (gSub (tVar 3) (tVar 1) L2.rSetL) (gCons (gSub (tVar 3) (tVar 2) L2.rSetL) gNil)))) (tRet (tMake (He.ga K "Frogs") (sp_Frogs_d_init K) [] E0 (tCons (tBM K "str" (rJoinS K) (tC (.str "")) (tCons (tVar 3) tNil)) tNil)))))
theorem len_Frogs_p_moved {K : PySem.W.Frag} {vs : List V} {H : Hp} {Q : VK} {E : XK} (h : sp_Frogs_p_moved K vs H Q E) : vs.length = 3 := by
  obtain ⟨_, _, _, _, _, rfl, _⟩ := h; rfl
theorem pure_Frogs_p_moved {K : PySem.W.Frag} (F : FFrogs K) (vs : List V) (H : Hp) (Q : VK) (E : XK) (h : sp_Frogs_p_moved K vs H Q E) : t_Frogs_p_moved K E { nx := fun _ H' => Q .non H', rt := Q } (start N_Frogs_p_moved vs) H := by
  obtain ⟨b, l, p, q, c, rfl, ⟨dx, hb⟩, ok, hp, hq, ok2, r⟩ := h
  unfold t_Frogs_p_moved
  obtain ⟨cl, na⟩ := F
  have l12 := ok.1
  have lp := (List.getElem?_eq_some_iff.mp hp).1
  repeat walk_at "mst"
  refine ⟨tx l, rfl, by rw [tx_size]; omega, ?_⟩
  rw [tx_cps, map_sign]
  walk_at "new"; rename_i sg nsg H1 e1 s1
  repeat walk_at "mst"
  refine k_ixL (k_sq s1) (atI_nat (j := p) (v := V.str (tx [c])) (by rw [List.getElem?_map, hp]; rfl)) ?_
  repeat walk_at "mst"
  walk_at "new"; rename_i t nt H2 e2 s2
  have s12 := e2 _ _ s1
  refine k_gtup (k_st s2) rfl ?_
  repeat walk_at "mst"
  have es : (l.map fun c => V.str (tx [c])).set p (.str ".") = (l.set p 46).map fun c => V.str (tx [c]) := (List.map_set (f := fun c => V.str (tx [c])) (l := l) (i := p) (a := 46)).symm
  refine ⟨sg, _, p, p, rfl, rfl, s12, by unfold ixN; rw [if_pos (by omega), if_pos (by rw [List.length_map]; omega), Int.toNat_natCast], ?_⟩
  rw [es]
  have e3 := Evl.Ex.mut (o := HO.lst ((l.set p 46).map fun c => V.str (tx [c]))) (e1.trans e2) nsg
  have s3 : upd H2 sg (HO.lst ((l.set p 46).map fun c => V.str (tx [c]))) sg = some (HO.lst ((l.set p 46).map fun c => V.str (tx [c]))) := upd_same
  generalize upd H2 sg (HO.lst ((l.set p 46).map fun c => V.str (tx [c]))) = H3 at *
  repeat walk_at "mst"
  have es2 : ((l.set p 46).map fun c => V.str (tx [c])).set q (.str (tx [c])) = ((l.set p 46).set q c).map fun c => V.str (tx [c]) := (List.map_set (f := fun c => V.str (tx [c])) (l := l.set p 46) (i := q) (a := c)).symm
  refine ⟨sg, _, q, q, rfl, rfl, s3, by unfold ixN; rw [if_pos (by omega), if_pos (by rw [List.length_map, List.length_set]; omega), Int.toNat_natCast], ?_⟩
  rw [es2]
  have e4 := Evl.Ex.mut (o := HO.lst (((l.set p 46).set q c).map fun c => V.str (tx [c]))) e3 nsg
  have s4 : upd H3 sg (HO.lst (((l.set p 46).set q c).map fun c => V.str (tx [c]))) sg = some (HO.lst (((l.set p 46).set q c).map fun c => V.str (tx [c]))) := upd_same
  generalize upd H3 sg (HO.lst (((l.set p 46).set q c).map fun c => V.str (tx [c]))) = H4 at *
  repeat walk_at "mst"
  refine k_tyX ?_
  repeat walk_at "mst"
  refine k_joinX (k_sq s4) (by rw [List.length_set, List.length_set]; omega) ?_
  repeat walk_at "mst"
  refine mk_fg ok2 fun x H5 nx e5 hx => ?_
  repeat walk_at "mst"
  exact r x H5 (Evl.fresh_back e4 nx) (e4.trans e5) hx
theorem use_fmoved {K : PySem.W.Frag} {H : Hp} {Q : VK} {E : XK} {b : Addr} {l : List Nat} {p q c : Nat} (h : FgAt K H b l) (ok : OkL l) (hp : l[p]? = some c) (hq : q < l.length) (ok2 : OkL ((l.set p 46).set q c)) (r : ∀ x H', H x = none → Ex H H' → FgAt K H' x ((l.set p 46).set q c) → Q (.ref x) H') : sp_Frogs_p_moved K (.ref b :: ([.int (p : Int), .int (q : Int)] ++ [])) H Q E := ⟨b, l, p, q, c, rfl, h, ok, hp, hq, ok2, r⟩
def sp_Frogs_m_moves (K : PySem.W.Frag) : Sp := fun vs H Q _ => ∃ (b : Addr) (s : Str) (l : List Nat), vs = [.ref b, .str s] ∧ (s = "left" ∨ s = "right") ∧ FgAt K H b l ∧ OkL l ∧ ∀ p ys H', H p = none → Ex H H' → H' p = some (.lst ys) → BsF K H' ys (mvsF s l) → Q (.ref p) H'
local macro_rules | `(tactic| walk_at "mlk") => `(tactic| exact gfs_get _)
local macro_rules | `(tactic| walk_at "new") => `(tactic| ((first | refine ⟨fits (Nat.le_of_ble_eq_true rfl), ?_⟩ | skip); intro p np; generalize hq : upd _ p _ = H1; have e1 := nx np hq; have s1 := nS hq; clear hq))
theorem k_ienumS {ta : TA} {σ : L2.St} {H : Hp} {R : It → Hp → Prop} (q : ta σ H fun vs H1 => ∃ x, vs = [.str x] ∧ Asc7 x ∧ R (IteS x) H1) : iEnumS ta σ H R := q
local macro_rules | `(tactic| walk_at "mst") => `(tactic| first
  | with_reducible refine k_ienumS ?_)
abbrev N_Frogs_m_moves : List Str := ["self", "side", "mover", "jumped", "step", "found", "place", "sign", "target"]
def t_Frogs_m_moves (K : PySem.W.Frag) (E : XK) : TS := (tSeq (tAsg (tOp (rKD K (He.ga K "MOVERS")) (tC (.ref (He.ga K "MOVERS"))) (tVar 1)) (gTup K 3 (gCons (gName 2) (gCons (gName 3) (gCons (gName 4) gNil))))) (tSeq (tAsg (tLst tNil) (gName 5)) (tSeq (tFor (iEnumS (tCons (tFld K (tVar 0) "_line") tNil)) (gTup K 2 (gCons (gName 6) (gCons (gName 7) gNil))) (tIfS (tTest (tOp rEq (tVar 7) (tVar 2))) (tSeq (tAsg (tMeth (He.ga K "Frogs") "_target" (sp_Frogs_p_target K) [] E0 (tVar 0) (tCons (tVar 6) (tCons (tVar 3) (tCons (tVar 4) tNil)))) (gName 8)) (tIfS (tTest (tOp rNotN (tVar 8) (tC .non))) (tDrop (tBM K "list" rAppend (tVar 5) (tCons (tMeth (He.ga K "Frogs") "_moved" (sp_Frogs_p_moved K) [] E0 (tVar 0) (tCons (tVar 6) (tCons (tVar 8) tNil))) tNil))) tNext)) tNext)) (tRet (tVar 5)))))
theorem len_Frogs_m_moves {K : PySem.W.Frag} {vs : List V} {H : Hp} {Q : VK} {E : XK} (h : sp_Frogs_m_moves K vs H Q E) : vs.length = 2 := by
  obtain ⟨_, _, _, rfl, _⟩ := h; rfl
theorem pure_Frogs_m_moves {K : PySem.W.Frag} (F : FFrogs K) (G : FMOVERS K) (vs : List V) (H : Hp) (Q : VK) (E : XK) (h : sp_Frogs_m_moves K vs H Q E) : t_Frogs_m_moves K E { nx := fun _ H' => Q .non H', rt := Q } (start N_Frogs_m_moves vs) H := by
  obtain ⟨b, s, l, rfl, hs, hB, ok, q⟩ := h
  obtain ⟨dx, hb⟩ := id hB
  have mv : PySem.W.nsIn K (He.ga K "MOVERS") s = some (some (.ref (kdA K "MOVERS" s))) ∧ ∀ H, SqT K H (kdA K "MOVERS" s) [.str (tx [ownF s]), .str (tx [jumF s]), .int (stpF s)] := by
    rcases hs with rfl | rfl
    · exact G.l
    · exact G.r
  unfold t_Frogs_m_moves
  obtain ⟨cl, na⟩ := F
  have l12 := ok.1
  repeat walk_at "mst"
  refine k_kd mv ?_
  refine k_gtup (mv.2 H) rfl ?_
  repeat walk_at "mst"
  walk_at "new"; rename_i fp nfp H1 e1 s1
  have hb1 := e1 _ _ hb
  repeat walk_at "mst"
  refine ⟨_, rfl, ok.asc, ?_⟩
  refine for_enumS (fun i σ H' => ∃ (zs : List V) (x6 x7 x8 : Option V), Ex H H' ∧ H' fp = some (.lst zs) ∧ BsF K H' zs ((List.range i).flatMap (mvAtF s l)) ∧ σ = [some (.ref b), some (.str s), some (.str (tx [ownF s])), some (.str (tx [jumF s])), some (.int (stpF s)), some (.ref fp), x6, x7, x8]) ⟨[], none, none, none, e1, s1, .nil, rfl⟩ ?_ ?_
  · rintro i c σ H2 T hc ⟨zs, x6, x7, x8, e, hf, bs, rfl⟩ hT
    have hc' : l[i]? = some c := by
      have : (tx l).cps.toList[i]? = some c := by simpa using hc
      rw [tx_cps] at this
      exact this
    have hi := (List.getElem?_eq_some_iff.mp hc').1
    have zl : zs.length ≤ i := by rw [bs.1]; exact mvsF_len s l i
    have e2 : Ex H2 (upd H2 T (HO.tup [V.int (i : Int), V.str ⟨#[c]⟩])) := Evl.Ex.new hT
    have sT : upd H2 T (HO.tup [V.int (i : Int), V.str ⟨#[c]⟩]) T = some (HO.tup [V.int (i : Int), V.str (tx [c])]) := upd_same
    generalize upd H2 T (HO.tup [V.int (i : Int), V.str ⟨#[c]⟩]) = H3 at *
    have e3 := e.trans e2
    have hB3 := hB.ex e3
    have hb3 := e3 _ _ hb
    have hf3 := e2 _ _ hf
    have bs3 := bs.imp fun y c q => q.ex e2
    have rs : (List.range (i + 1)).flatMap (mvAtF s l) = (List.range i).flatMap (mvAtF s l) ++ mvAtF s l i := by
      rw [List.range_succ, List.flatMap_append, List.flatMap_singleton]
    rw [rs]
    refine k_gtup (k_st sT) rfl ?_
    repeat walk_at "mst"
    refine k_eqX ?_
    repeat walk_at "mst"
    refine k_iteD (fun z => ?_) (fun z => ?_)
    · injection z with z
      subst z
      have ea : mvAtF s l i = (tgt s l i).toList.map (mvL s l i) := by unfold mvAtF; rw [if_pos hc']
      rw [ea]
      repeat walk_at "mst"
      refine ⟨b, dx, _, rfl, hb3, gfs_no _ (by decide +kernel), ?_⟩
      repeat walk_at "mst"
      refine use_ftarget hB3 l12 ?_
      rw [← tgt_G]
      cases ht : tgt s l i with
      | none =>
        rw [show tgV none = V.non from rfl]
        repeat walk_at "mst"
        rw [decide_eq_true (p := V.non = V.non) rfl]
        repeat walk_at "mst"
        exact ⟨zs, _, _, _, e3, hf3, by rw [Option.toList_none, List.map_nil, List.append_nil]; exact bs3, rfl⟩
      | some q =>
        obtain ⟨q0, q1, _⟩ := tgt_in ht
        obtain ⟨qn, rfl⟩ : ∃ qn : Nat, q = (qn : Int) := ⟨q.toNat, by omega⟩
        rw [show tgV (some (qn : Int)) = V.int qn from rfl]
        repeat walk_at "mst"
        rw [decide_eq_false (p := V.int (qn : Int) = V.non) (fun h => by cases h)]
        repeat walk_at "mst"
        refine ⟨b, dx, _, rfl, hb3, gfs_no _ (by decide +kernel), ?_⟩
        repeat walk_at "mst"
        refine use_fmoved hB3 ok hc' (by omega) (mvL_ok (s := s) ok i (qn : Int)) fun x H4 nx e4 hx => ?_
        have hf4 := e4 _ _ hf3
        have bs4 := (bs3.imp fun y c q => q.ex e4).app (.one (P := FgV K) ⟨x, rfl, hx⟩)
        repeat walk_at "mst"
        · exact fits' (by omega)
        refine ⟨zs ++ [V.ref x], _, _, _, Evl.Ex.mut (e3.trans e4) nfp, upd_same, ?_, rfl⟩
        exact bs4.imp fun y c q => q.keep (H' := upd H4 fp (HO.lst (zs ++ [V.ref x]))) fun c o q n => (upd_ne fun e => n _ (by rw [e, hf4] at q; exact (Option.some.inj q).symm)).trans q
    · have ea : mvAtF s l i = [] := by unfold mvAtF; rw [if_neg (fun h => z (by rw [hc'] at h; injection h with h; rw [h]))]
      rw [ea, List.append_nil]
      repeat walk_at "mst"
      exact ⟨zs, _, _, _, e3, hf3, bs3, rfl⟩
  · rintro σ H2 ⟨zs, x6, x7, x8, e, hf, bs, rfl⟩
    rw [tx_size] at bs
    repeat walk_at "mst"
    exact q fp zs H2 nfp e hf bs
theorem use_fmoves {K : PySem.W.Frag} {H : Hp} {Q : VK} {E : XK} {b : Addr} {s : Str} {l : List Nat} (hs : s = "left" ∨ s = "right") (h : FgAt K H b l) (ok : OkL l) (q : ∀ p ys H', H p = none → Ex H H' → H' p = some (.lst ys) → BsF K H' ys (mvsF s l) → Q (.ref p) H') : sp_Frogs_m_moves K (.ref b :: ([.str s] ++ [])) H Q E := ⟨b, s, l, rfl, hs, h, ok, q⟩
def sp_cuts (K : PySem.W.Frag) : Sp := fun vs H Q _ => ∃ (y : V) (s : Str) (c : Ck), vs = [y, .str s] ∧ CkAt H y c ∧ OkK c ∧ ∀ p ys H', H p = none → Ex H H' → H' p = some (.lst ys) → AllAt TwAt H' ys (cutsC s c) → Q (.ref p) H'
local macro_rules | `(tactic| walk_at "new") => `(tactic| ((first | refine ⟨fits (Nat.le_of_ble_eq_true rfl), ?_⟩ | skip); intro p np; generalize hq : upd _ p _ = H1; have e1 := nx np hq; have s1 := nS hq; clear hq))
theorem k_eqStr {H : Hp} {Q : VK} {a b : Str} (q : Q (.bl (decide (a = b))) H) : rEq (.str a) (.str b) H Q := ⟨rfl, by
  have e : decide (V.str a = V.str b) = decide (a = b) := decide_eq_decide.mpr ⟨fun h => V.str.inj h, fun h => by rw [h]⟩
  rw [e]; exact q⟩
abbrev N_cuts : List Str := ["cake", "side", "rows", "columns", "first"]
def t_cuts (K : PySem.W.Frag) (E : XK) : TS := (tSeq (tAsg (tVar 0) (gTup K 2 (gCons (gName 2) (gCons (gName 3) gNil)))) (tSeq (tIfS (tTest (tOp rEq (tVar 1) (tC (.str "left")))) (tRet (tLc (iRng2 (tCons (tC (.int 1)) (tCons (tVar 3) tNil))) (gName 4) tYes (tTup (tCons (tTup (tCons (tVar 2) (tCons (tVar 4) tNil))) (tCons (tTup (tCons (tVar 2) (tCons (tOp rSubI (tVar 3) (tVar 4)) tNil))) tNil))) [4])) tNext) (tRet (tLc (iRng2 (tCons (tC (.int 1)) (tCons (tVar 2) tNil))) (gName 4) tYes (tTup (tCons (tTup (tCons (tVar 4) (tCons (tVar 3) tNil))) (tCons (tTup (tCons (tOp rSubI (tVar 2) (tVar 4)) (tCons (tVar 3) tNil))) tNil))) [4]))))
theorem len_cuts {K : PySem.W.Frag} {vs : List V} {H : Hp} {Q : VK} {E : XK} (h : sp_cuts K vs H Q E) : vs.length = 2 := by
  obtain ⟨_, _, _, rfl, _⟩ := h; rfl
theorem pure_cuts {K : PySem.W.Frag} (vs : List V) (H : Hp) (Q : VK) (E : XK) (h : sp_cuts K vs H Q E) : t_cuts K E { nx := fun _ H' => Q .non H', rt := Q } (start N_cuts vs) H := by
  obtain ⟨y, s, c, rfl, ⟨a, rfl, ha⟩, ⟨c1, c2, c3, c4⟩, q⟩ := h
  unfold t_cuts
  repeat walk_at "mst"
  refine k_gtup (k_st ha) rfl ?_
  repeat walk_at "mst"
  refine k_eqStr ?_
  repeat walk_at "mst"
  refine k_iteD (fun z => ?_) (fun z => ?_)
  · have ez : cutsC s c = (List.range (c.2 - 1).toNat).map fun (j : Nat) => ((c.1, 1 + (j : Int)), (c.1, c.2 - (1 + (j : Int)))) := by unfold cutsC; rw [if_pos z]
    rw [ez] at q
    repeat walk_at "mst"
    refine ⟨_, _, rfl, ⟨by omega, by omega, by omega, by omega⟩, ?_⟩
    refine lcQ_rng (fun j y H => TwAt H y ((c.1, 1 + (j : Int)), (c.1, c.2 - (1 + (j : Int))))) (fun j y H H' h k => h.keep k) (fits' (by omega)) (fun j hj => ?_) fun D ys H' hD e hd yl ok => ?_
    · refine turnQ_map fun H' e RR rr => ?_
      repeat walk_at "mst"
      walk_at "new"; rename_i p1 n1 H1 e1 s1
      repeat walk_at "mst"
      walk_at "new"; rename_i p2 n2 H2 e2 s2
      repeat walk_at "mst"
      walk_at "new"; rename_i p3 n3 H3 e3 s3
      exact rr _ _ ((e1.trans e2).trans e3) ⟨p3, _, _, rfl, s3, ⟨p1, rfl, e3 _ _ (e2 _ _ s1)⟩, ⟨p2, rfl, e3 _ _ s2⟩⟩
    · refine q D ys H' hD e hd ⟨by rw [yl, List.length_map, List.length_range], fun j two hj => ?_⟩
      have lj := (List.getElem?_eq_some_iff.mp hj).1
      rw [List.length_map, List.length_range] at lj
      rw [List.getElem?_map, List.getElem?_range lj] at hj
      cases hj
      exact ok j lj
  · have ez : cutsC s c = (List.range (c.1 - 1).toNat).map fun (j : Nat) => ((1 + (j : Int), c.2), (c.1 - (1 + (j : Int)), c.2)) := by unfold cutsC; rw [if_neg z]
    rw [ez] at q
    repeat walk_at "mst"
    refine ⟨_, _, rfl, ⟨by omega, by omega, by omega, by omega⟩, ?_⟩
    refine lcQ_rng (fun j y H => TwAt H y ((1 + (j : Int), c.2), (c.1 - (1 + (j : Int)), c.2))) (fun j y H H' h k => h.keep k) (fits' (by omega)) (fun j hj => ?_) fun D ys H' hD e hd yl ok => ?_
    · refine turnQ_map fun H' e RR rr => ?_
      repeat walk_at "mst"
      walk_at "new"; rename_i p1 n1 H1 e1 s1
      repeat walk_at "mst"
      walk_at "new"; rename_i p2 n2 H2 e2 s2
      repeat walk_at "mst"
      walk_at "new"; rename_i p3 n3 H3 e3 s3
      exact rr _ _ ((e1.trans e2).trans e3) ⟨p3, _, _, rfl, s3, ⟨p1, rfl, e3 _ _ (e2 _ _ s1)⟩, ⟨p2, rfl, e3 _ _ s2⟩⟩
    · refine q D ys H' hD e hd ⟨by rw [yl, List.length_map, List.length_range], fun j two hj => ?_⟩
      have lj := (List.getElem?_eq_some_iff.mp hj).1
      rw [List.length_map, List.length_range] at lj
      rw [List.getElem?_map, List.getElem?_range lj] at hj
      cases hj
      exact ok j lj
theorem use_cuts {K : PySem.W.Frag} {H : Hp} {Q : VK} {E : XK} {y : V} {s : Str} {c : Ck} (h : CkAt H y c) (ok : OkK c) (q : ∀ p ys H', H p = none → Ex H H' → H' p = some (.lst ys) → AllAt TwAt H' ys (cutsC s c) → Q (.ref p) H') : sp_cuts K ([y, .str s] ++ []) H Q E := ⟨y, s, c, rfl, h, ok, q⟩
def sp_Cakes_m_moves (K : PySem.W.Frag) : Sp := fun vs H Q _ => ∃ (b : Addr) (s : Str) (cs : List Ck), vs = [.ref b, .str s] ∧ CbAt K H b cs ∧ OkC cs ∧ ∀ p ys H', H p = none → Ex H H' → H' p = some (.lst ys) → BsC K H' ys (mvsC s cs) → Q (.ref p) H'
local macro_rules | `(tactic| walk_at "mlk") => `(tactic| exact cfs_get _)
local macro_rules | `(tactic| walk_at "new") => `(tactic| ((first | refine ⟨fits (Nat.le_of_ble_eq_true rfl), ?_⟩ | skip); intro p np; generalize hq : upd _ p _ = H1; have e1 := nx np hq; have s1 := nS hq; clear hq))
local macro_rules | `(tactic| walk_at "mst") => `(tactic| first
  | with_reducible refine k_star ?_
  | with_reducible refine k_enumT ?_)
abbrev N_Cakes_m_moves : List Str := ["self", "side", "found", "place", "cake", "first", "second"]
def t_Cakes_m_moves (K : PySem.W.Frag) (E : XK) : TS := (tSeq (tAsg (tLst tNil) (gName 2)) (tSeq (tFor (iEnumT K (tCons (tFld K (tVar 0) "_cakes") tNil)) (gTup K 2 (gCons (gName 3) (gCons (gName 4) gNil))) (tFor (iList K (tCall (sp_cuts K) [] E0 (tCons (tVar 4) (tCons (tVar 1) tNil)))) (gTup K 2 (gCons (gName 5) (gCons (gName 6) gNil))) (tDrop (tBM K "list" rAppend (tVar 2) (tCons (tMake (He.ga K "Cakes") (sp_Cakes_d_init K) [] E0 (tCons (tLst (StX.tStar K (tSl (rSlA K) (tFld K (tVar 0) "_cakes") tNoPart (tPart (tVar 3))) (tCons (tVar 5) (tCons (tVar 6) (StX.tStar K (tSl (rSlA K) (tFld K (tVar 0) "_cakes") (tPart (tOp rAddI (tVar 3) (tC (.int 1)))) tNoPart) tNil))))) tNil)) tNil))))) (tRet (tVar 2))))
theorem len_Cakes_m_moves {K : PySem.W.Frag} {vs : List V} {H : Hp} {Q : VK} {E : XK} (h : sp_Cakes_m_moves K vs H Q E) : vs.length = 2 := by
  obtain ⟨_, _, _, rfl, _⟩ := h; rfl
theorem pure_Cakes_m_moves {K : PySem.W.Frag} (F : FCakes K) (vs : List V) (H : Hp) (Q : VK) (E : XK) (h : sp_Cakes_m_moves K vs H Q E) : t_Cakes_m_moves K E { nx := fun _ H' => Q .non H', rt := Q } (start N_Cakes_m_moves vs) H := by
  obtain ⟨b, s, cs, rfl, ⟨dx, t, xs, hb, ht, R⟩, ok, q⟩ := h
  unfold t_Cakes_m_moves
  obtain ⟨cl, na⟩ := F
  have l144 := ok.len
  have xl := R.1
  repeat walk_at "mst"
  walk_at "new"; rename_i fp nfp H1 e1 s1
  have hb1 := e1 _ _ hb
  have ht1 := e1 _ _ ht
  repeat walk_at "mst"
  refine ⟨t, _, rfl, k_st ht1, for_enumT (xs := xs) (fun i σ H' => ∃ (zs : List V) (x3 x4 x5 x6 : Option V), Ex H H' ∧ H' fp = some (.lst zs) ∧ BsC K H' zs ((List.range i).flatMap (mvAtC s cs)) ∧ σ = [some (.ref b), some (.str s), some (.ref fp), x3, x4, x5, x6]) ⟨[], none, none, none, none, e1, s1, .nil, rfl⟩ ?_ ?_ ?_⟩
  · rintro i σ H' _ ⟨_, _, _, _, _, e, _⟩; exact k_st (e _ _ ht)
  · rintro i x σ H2 T hx ⟨zs, x3, x4, x5, x6, e, hf, bs, rfl⟩ hT
    have hi := (List.getElem?_eq_some_iff.mp hx).1
    have hic : i < cs.length := by omega
    obtain ⟨gm, _⟩ := get_mem hic (1, 1)
    have okk := ok.1 _ gm
    have gc : cs[i]? = some (cs.getD i (1, 1)) := by rw [List.getD_eq_getElem?_getD, List.getElem?_eq_getElem hic]; rfl
    obtain ⟨x', hx', ck⟩ := R.2 i _ gc
    rw [hx] at hx'
    injection hx' with hx'
    subst hx'
    have zl := mvs_len (s := s) ok i (by omega)
    have e2 : Ex H2 (upd H2 T (HO.tup [V.int (i : Int), x])) := Evl.Ex.new hT
    have sT : upd H2 T (HO.tup [V.int (i : Int), x]) T = some (HO.tup [V.int (i : Int), x]) := upd_same
    generalize upd H2 T (HO.tup [V.int (i : Int), x]) = H3 at *
    have e3 := e.trans e2
    refine k_gtup (k_st sT) rfl ?_
    repeat walk_at "mst"
    refine use_cuts (ck.ex e3) okk fun lp ts H4 nlp e4 hlp tw => ?_
    have e04 := e3.trans e4
    have hf4 := e4 _ _ (e2 _ _ hf)
    have bs4 := bs.imp fun y c q => q.ex (e2.trans e4)
    have tl := tw.1
    repeat walk_at "mst"
    have lpn : lp ≠ fp := fun z => by rw [z, e2 _ _ hf] at nlp; cases nlp
    refine ⟨lp, rfl, ⟨_, k_sq hlp⟩, forK_list (xs := ts) (fun j σ H' => ∃ (zs : List V) (x5 x6 : Option V), Ex H H' ∧ H' lp = some (.lst ts) ∧ AllAt TwAt H' ts (cutsC s (cs.getD i (1, 1))) ∧ H' fp = some (.lst zs) ∧ BsC K H' zs ((List.range i).flatMap (mvAtC s cs) ++ (mvAtC s cs i).take j) ∧ σ = [some (.ref b), some (.str s), some (.ref fp), some (.int (i : Int)), some x, x5, x6]) ⟨zs, x5, x6, e04, hlp, tw, hf4, by rw [List.take_zero, List.append_nil]; exact bs4, rfl⟩ ?_ ?_ ?_⟩
    · rintro j σ H' _ ⟨_, _, _, _, hl, _⟩; exact k_sq hl
    · rintro j y σ H5 hy ⟨ws, y5, y6, e5, hl5, tw5, hf5, bs5, rfl⟩
      have hj := (List.getElem?_eq_some_iff.mp hy).1
      have gj := List.getElem?_eq_getElem (l := cutsC s (cs.getD i (1, 1))) (i := j) (by omega)
      have gm2 := List.mem_of_getElem? gj
      have okm := ok_mv ok hic gm2
      have em : (mvAtC s cs i)[j]? = some (cs.take i ++ [((cutsC s (cs.getD i (1, 1)))[j]'(by omega)).1, ((cutsC s (cs.getD i (1, 1)))[j]'(by omega)).2] ++ cs.drop (i + 1)) := by
        unfold mvAtC
        rw [List.getElem?_map, gj]; rfl
      obtain ⟨y', hy', a, y1, y2, rfl, ha, k1, k2⟩ := tw5.2 j _ gj
      rw [hy] at hy'
      injection hy' with hy'
      subst hy'
      generalize (cutsC s (cs.getD i (1, 1)))[j]'(by omega) = two at *
      have wl : ws.length ≤ 11 * i + j := by
        have h1 := bs5.1
        rw [List.length_append, List.length_take] at h1
        omega
      have jl : j ≤ 11 := by have := cuts_len (s := s) okk; omega
      have hb5 := e5 _ _ hb
      have ht5 := e5 _ _ ht
      have R5 := R.ex e5
      refine k_gtup (k_st ha) rfl ?_
      repeat walk_at "mst"
      refine k_slA (k_st ht5) fun p1 H6 e6 h6 => ?_
      rw [cut_cut (by omega)] at h6
      refine ⟨p1, _, rfl, Or.inl h6, ?_⟩
      have hb6 := e6 _ _ hb5
      have ht6 := e6 _ _ ht5
      repeat walk_at "mst"
      refine k_slA (k_st ht6) fun p2 H7 e7 h7 => ?_
      rw [show (i : Int) + 1 = ((i + 1 : Nat) : Int) by omega, cut_off (by omega)] at h7
      refine ⟨p2, _, rfl, Or.inl h7, ?_⟩
      repeat walk_at "mst"
      have eL : (xs.take i ++ y1 :: y2 :: (xs.drop (i + 1) ++ [])) = (xs.take i ++ [y1, y2] ++ xs.drop (i + 1)) := by simp
      rw [eL]
      refine ⟨fits (by rw [List.length_append, List.length_append, List.length_take, List.length_drop]; show _ + 2 + _ ≤ _; omega), ?_⟩
      walk_at "new"; rename_i np nnp H8 e8 s8
      have e58 := (e6.trans e7).trans e8
      have R8 := (R5.ex e58).mv i (k1.ex e58) (k2.ex e58)
      repeat walk_at "mst"
      refine mk_cb (k_sq s8) R8 okm fun z H9 nz e9 hz => ?_
      have e59 := e58.trans e9
      have hf9 := e59 _ _ hf5
      have hl9 := e59 _ _ hl5
      have bs9 := (bs5.imp fun y c q => q.ex e59).app (.one (P := CbV K) ⟨z, rfl, hz⟩)
      have tw9 := tw5.imp fun y c q => q.ex e59
      repeat walk_at "mst"
      · exact fits' (by omega)
      have kp : ∀ c o, H9 c = some o → (∀ ys, o ≠ .lst ys) → upd H9 fp (HO.lst (ws ++ [V.ref z])) c = some o := fun c o q n => (upd_ne fun e => n _ (by rw [e, hf9] at q; exact (Option.some.inj q).symm)).trans q
      refine ⟨ws ++ [V.ref z], _, _, Evl.Ex.mut (e5.trans e59) nfp, (upd_ne lpn).trans hl9, tw9.imp fun y c q => q.keep kp, upd_same, ?_, rfl⟩
      rw [List.take_add_one, em]
      have bsA := bs9.imp fun y c q => q.keep kp
      rw [List.append_assoc] at bsA
      exact bsA
    · rintro σ H' ⟨ws, y5, y6, e5, hl5, tw5, hf5, bs5, rfl⟩
      refine ⟨ws, _, _, _, _, e5, hf5, ?_, rfl⟩
      have l : (mvAtC s cs i).length = ts.length := by unfold mvAtC; rw [List.length_map, tl]
      rw [List.take_of_length_le (by omega)] at bs5
      rw [List.range_succ, List.flatMap_append, List.flatMap_singleton]
      exact bs5
  · rintro σ H' ⟨zs, x3, x4, x5, x6, e, hf, bs, rfl⟩
    repeat walk_at "mst"
    rw [xl] at bs
    exact q fp zs H' nfp e hf bs
theorem use_cmoves {K : PySem.W.Frag} {H : Hp} {Q : VK} {E : XK} {b : Addr} {s : Str} {cs : List Ck} (h : CbAt K H b cs) (ok : OkC cs) (q : ∀ p ys H', H p = none → Ex H H' → H' p = some (.lst ys) → BsC K H' ys (mvsC s cs) → Q (.ref p) H') : sp_Cakes_m_moves K (.ref b :: ([.str s] ++ [])) H Q E := ⟨b, s, cs, rfl, h, ok, q⟩
def sp_Table_p_moved (K : PySem.W.Frag) : Sp := fun vs H Q _ => ∃ (b : Addr) (xs : List V) (pl z : V), vs = [.ref b, z] ∧ TbAt K H b xs pl ∧ ∀ x H', H x = none → Ex H H' → TbAt K H' x xs z → Q (.ref x) H'
local macro_rules | `(tactic| walk_at "mlk") => `(tactic| first | exact tfs_rows _ _ | exact tfs_place _ _)
local macro_rules | `(tactic| walk_at "new") => `(tactic| ((first | refine ⟨fits (Nat.le_of_ble_eq_true rfl), ?_⟩ | skip); intro p np; generalize hq : upd _ p _ = H1; have e1 := nx np hq; have s1 := nS hq; clear hq))
abbrev N_Table_p_moved : List Str := ["self", "place", "board"]
def t_Table_p_moved (K : PySem.W.Frag) (E : XK) : TS := (tSeq (tAsg (tMake (He.ga K "Table") (sp_Table_d_init K) [] E0 (tCons (tLst (tCons (tTup (tCons (tTup tNil) (tCons (tTup tNil) tNil))) tNil)) (tCons (tC (.int 0)) tNil))) (gName 2)) (tSeq (sFld K (tVar 2) (tFld K (tVar 0) "_rows") "_rows") (tSeq (sFld K (tVar 2) (tVar 1) "_place") (tRet (tVar 2)))))
theorem len_Table_p_moved {K : PySem.W.Frag} {vs : List V} {H : Hp} {Q : VK} {E : XK} (h : sp_Table_p_moved K vs H Q E) : vs.length = 2 := by
  obtain ⟨_, _, _, _, rfl, _⟩ := h; rfl
theorem pure_Table_p_moved {K : PySem.W.Frag} (F : FTable K) (vs : List V) (H : Hp) (Q : VK) (E : XK) (h : sp_Table_p_moved K vs H Q E) : t_Table_p_moved K E { nx := fun _ H' => Q .non H', rt := Q } (start N_Table_p_moved vs) H := by
  obtain ⟨b, xs, pl, z, rfl, ⟨dx, t, hb, ht⟩, q⟩ := h
  unfold t_Table_p_moved
  obtain ⟨cl, np, nr⟩ := F
  repeat walk_at "mst"
  walk_at "new"; rename_i p1 n1 H1 e1 s1
  repeat walk_at "mst"
  walk_at "new"; rename_i p2 n2 H2 e2 s2
  repeat walk_at "mst"
  walk_at "new"; rename_i p3 n3 H3 e3 s3
  repeat walk_at "mst"
  walk_at "new"; rename_i p4 n4 H4 e4 s4
  have e04 := (e1.trans e2).trans (e3.trans e4)
  repeat walk_at "mst"
  have R : RsAt H4 [.ref p3] [([], [])] := ⟨rfl, fun i r h => by
    match i with
    | 0 => cases h; exact ⟨_, rfl, p3, _, _, rfl, e4 _ _ s3, ⟨p1, rfl, e4 _ _ (e3 _ _ (e2 _ _ s1))⟩, ⟨p2, rfl, e4 _ _ (e3 _ _ s2)⟩⟩
    | i + 1 => cases h⟩
  have ok : OkRT [([], [])] := ⟨by decide, by decide, fun i r h => by
    match i with
    | 0 => cases h; exact ⟨trivial, trivial⟩
    | i + 1 => cases h⟩
  refine mk_tb (k_sq s4) R ok (by decide) (by decide) fun x H5 nx e5 hT => ?_
  obtain ⟨dx2, t2, hx, _⟩ := hT
  have e05 := e04.trans e5
  have hb5 := e05 _ _ hb
  have nx0 := Evl.fresh_back e04 nx
  repeat walk_at "mst"
  refine ⟨x, _, dx2, _, rfl, hx, cl, nr, by show 2 < 1000; decide, ?_⟩
  have e6 := Evl.Ex.mut (o := HO.ins (He.ga K "Table") dx2 (putF "_rows" (.ref t) (tfs t2 (.int 0)))) e05 nx0
  have s6 : upd H5 x (HO.ins (He.ga K "Table") dx2 (putF "_rows" (.ref t) (tfs t2 (.int 0)))) x = some (HO.ins (He.ga K "Table") dx2 (putF "_rows" (.ref t) (tfs t2 (.int 0)))) := upd_same
  generalize upd H5 x (HO.ins (He.ga K "Table") dx2 (putF "_rows" (.ref t) (tfs t2 (.int 0)))) = H6 at *
  repeat walk_at "mst"
  refine ⟨x, _, dx2, _, rfl, s6, cl, np, Nat.lt_of_le_of_lt (Nat.le_of_ble_eq_true (by rfl) : _ ≤ 5) (by decide), ?_⟩
  rw [tfs_set]
  have e7 := Evl.Ex.mut (o := HO.ins (He.ga K "Table") dx2 (tfs t z)) e6 nx0
  have s7 : upd H6 x (HO.ins (He.ga K "Table") dx2 (tfs t z)) x = some (HO.ins (He.ga K "Table") dx2 (tfs t z)) := upd_same
  generalize upd H6 x (HO.ins (He.ga K "Table") dx2 (tfs t z)) = H7 at *
  repeat walk_at "mst"
  exact q x H7 nx0 e7 ⟨dx2, t, s7, e7 _ _ ht⟩
theorem use_tmoved {K : PySem.W.Frag} {H : Hp} {Q : VK} {E : XK} {b : Addr} {xs : List V} {pl z : V} (h : TbAt K H b xs pl) (q : ∀ x H', H x = none → Ex H H' → TbAt K H' x xs z → Q (.ref x) H') : sp_Table_p_moved K (.ref b :: ([z] ++ [])) H Q E := ⟨b, xs, pl, z, rfl, h, q⟩
def sp_Table_m_moves (K : PySem.W.Frag) : Sp := fun vs H Q _ => ∃ (b : Addr) (s : Str) (xs : List V) (rs : List RowG) (k : Nat) (r : RowG), vs = [.ref b, .str s] ∧ TbAt K H b xs (.int (k : Int)) ∧ RsAt H xs rs ∧ OkRT rs ∧ rs[k]? = some r ∧ ∀ p ys H', H p = none → Ex H H' → H' p = some (.lst ys) → TsAt K H' ys xs (sideG s r) → Q (.ref p) H'
local macro_rules | `(tactic| walk_at "mlk") => `(tactic| first | exact tfs_rows _ _ | exact tfs_place _ _)
/-- one list of places out of a row -/
theorem side_at {H : Hp} {y1 y2 : V} {r : RowG} (g1 : GoAt H y1 r.1) (g2 : GoAt H y2 r.2) (s : Str) : ∃ u, (if s = "left" then y1 else y2) = .ref u ∧ H u = some (.tup ((sideG s r).map V.int)) := by
  obtain ⟨u, e1, h1⟩ := g1
  obtain ⟨v, e2, h2⟩ := g2
  unfold sideG
  by_cases z : s = "left"
  · rw [if_pos z, if_pos z]; exact ⟨u, e1, h1⟩
  · rw [if_neg z, if_neg z]; exact ⟨v, e2, h2⟩
abbrev N_Table_m_moves : List Str := ["self", "side", "lefts", "rights", "places", "place"]
def t_Table_m_moves (K : PySem.W.Frag) (E : XK) : TS := (tSeq (tAsg (tOp (rIxT K) (tFld K (tVar 0) "_rows") (tFld K (tVar 0) "_place")) (gTup K 2 (gCons (gName 2) (gCons (gName 3) gNil)))) (tSeq (tAsg (tIf (tTest (tOp rEq (tVar 1) (tC (.str "left")))) (tVar 2) (tVar 3)) (gName 4)) (tRet (tLc (iTup K (tVar 4)) (gName 5) tYes (tMeth (He.ga K "Table") "_moved" (sp_Table_p_moved K) [] E0 (tVar 0) (tCons (tVar 5) tNil)) [5]))))
theorem len_Table_m_moves {K : PySem.W.Frag} {vs : List V} {H : Hp} {Q : VK} {E : XK} (h : sp_Table_m_moves K vs H Q E) : vs.length = 2 := by
  obtain ⟨_, _, _, _, _, _, rfl, _⟩ := h; rfl
theorem pure_Table_m_moves {K : PySem.W.Frag} (F : FTable K) (vs : List V) (H : Hp) (Q : VK) (E : XK) (h : sp_Table_m_moves K vs H Q E) : t_Table_m_moves K E { nx := fun _ H' => Q .non H', rt := Q } (start N_Table_m_moves vs) H := by
  obtain ⟨b, s, xs, rs, k, r, rfl, hT, R, ok, hk, q⟩ := h
  obtain ⟨dx, t, hb, ht⟩ := id hT
  obtain ⟨y, hy, a, y1, y2, rfl, ha, g1, g2⟩ := R.2 k r hk
  unfold t_Table_m_moves
  obtain ⟨cl, np, nr⟩ := F
  repeat walk_at "mst"
  refine k_ixT (k_st ht) (atI_nat hy) ?_
  refine k_gtup (k_st ha) rfl ?_
  repeat walk_at "mst"
  refine k_eqStr ?_
  repeat walk_at "mst"
  obtain ⟨u, eu, hu⟩ := side_at g1 g2 s
  have fin : ∀ (s4 : Option V), tRet (tLc (iTup K (tVar 4)) (gName 5) tYes (tMeth (He.ga K "Table") "_moved" (sp_Table_p_moved K) [] E0 (tVar 0) (tCons (tVar 5) tNil)) [5]) { nx := fun _ H' => Q .non H', rt := Q } [some (.ref b), some (.str s), some y1, some y2, some (.ref u), s4] H := by
    intro s4
    repeat walk_at "mst"
    refine ⟨u, rfl, ⟨_, k_st hu⟩, lcQ_tup (xs := (sideG s r).map V.int) (fun x y H => ∃ c, y = .ref c ∧ TbAt K H c xs x) ?_ (k_st hu) (fits' (by rw [List.length_map]; have := ok.few hk s; omega)) ?_ ?_⟩
    · rintro x y H H' ⟨c, e, h⟩ kp
      exact ⟨c, e, h.keep kp⟩
    · intro i x hx
      refine turnQ_map fun H' e RR rr => ?_
      repeat walk_at "mst"
      refine ⟨b, dx, _, rfl, e _ _ hb, tfs_no _ _ (by decide +kernel) (by decide +kernel), ?_⟩
      repeat walk_at "mst"
      exact use_tmoved (hT.ex e) fun c H'' nc e2 hc => rr _ _ e2 ⟨c, rfl, hc⟩
    · intro D ys H' hD e hd yl ok2
      refine q D ys H' hD e hd ⟨by rw [yl, List.length_map], fun i z hz => ?_⟩
      obtain ⟨y, h1, c, rfl, h2⟩ := ok2 i (.int z) (by rw [List.getElem?_map, hz]; rfl)
      exact ⟨c, h1, h2⟩
  refine k_iteD (fun z => ?_) (fun z => ?_)
  · rw [if_pos z] at eu
    subst eu
    walk_at "mst"
    walk_at "mst"
    exact fin _
  · rw [if_neg z] at eu
    subst eu
    walk_at "mst"
    walk_at "mst"
    exact fin _
theorem use_tmoves {K : PySem.W.Frag} {H : Hp} {Q : VK} {E : XK} {b : Addr} {s : Str} {xs : List V} {rs : List RowG} {k : Nat} {r : RowG} (h : TbAt K H b xs (.int (k : Int))) (R : RsAt H xs rs) (ok : OkRT rs) (hk : rs[k]? = some r) (q : ∀ p ys H', H p = none → Ex H H' → H' p = some (.lst ys) → TsAt K H' ys xs (sideG s r) → Q (.ref p) H') : sp_Table_m_moves K (.ref b :: ([.str s] ++ [])) H Q E := ⟨b, s, xs, rs, k, r, rfl, h, R, ok, hk, q⟩
theorem mvsL_lenM (s : Str) (w : Nat) (rs : Fl) : (mvsL s w rs).length ≤ rs.length * w := by
  refine flat_len _ w (fun i => ?_) _
  have := flat_len (fun j => mvAtL s rs i j) 1 (mvAtL_len s rs i) w
  omega
/-- the moves of a board, as states -/
theorem use_bmovesS {K : PySem.W.Frag} {σ : L2.St} {H : Hp} {Q : VK} {ta tb : TE} {b : Addr} {g : BSt} {s : Str} (hs : s = "left" ∨ s = "right") (hv : ∀ Q' : VK, Q' (.ref b) H → ta σ H Q') (hb : ∀ Q' : VK, Q' (.str s) H → tb σ H Q') (h : Bs K H b g) (q : ∀ p ys H', H p = none → Ex H H' → H' p = some (.lst ys) → BsS K H' ys (mvB s g) → ys.length ≤ 2000 → Q (.ref p) H') :
    (tOrE (tMeth (He.ga K "Heaps") "moves" (sp_Heaps_m_moves K) [] E0 ta (tCons tb tNil)) (tOrE (tMeth (He.ga K "Hedge") "moves" (sp_Hedge_m_moves K) [] E0 ta (tCons tb tNil)) (tOrE (tMeth (He.ga K "Floor") "moves" (sp_Floor_m_moves K) [] E0 ta (tCons tb tNil)) (tOrE (tMeth (He.ga K "Frogs") "moves" (sp_Frogs_m_moves K) [] E0 ta (tCons tb tNil)) (tOrE (tMeth (He.ga K "Cakes") "moves" (sp_Cakes_m_moves K) [] E0 ta (tCons tb tNil)) (tMeth (He.ga K "Table") "moves" (sp_Table_m_moves K) [] E0 ta (tCons tb tNil))))))) σ H Q := by
  cases h with
  | @heaps ns h ok =>
    simp only [mvB] at q
    refine k_orL (hv _ ?_)
    obtain ⟨dx, t, h1, h2⟩ := id h
    refine ⟨b, dx, _, rfl, h1, by unfold hfs; rw [lookup_putF, if_neg (by decide +kernel)]; rfl, hb _ ?_⟩
    refine ⟨b, .str s, ns, rfl, h, ok, fun p xs H' np e hp R l => q p xs H' np e hp ⟨by rw [List.length_map]; exact R.1, fun i c hc => ?_⟩ (by omega)⟩
    rw [List.getElem?_map, Option.map_eq_some_iff] at hc
    obtain ⟨z, hz, rfl⟩ := hc
    obtain ⟨u, hu, hx⟩ := R.2 i z hz
    exact ⟨_, hu, u, rfl, .heaps hx (okS_mvs ok (List.mem_of_getElem? hz))⟩
  | @hedge es h ok l =>
    simp only [mvB] at q
    refine k_orR (k_orL (hv _ ?_))
    obtain ⟨dx, t, xs, h1, h2⟩ := id h
    refine ⟨b, dx, _, rfl, h1, by unfold ghe; rw [lookup_putF, if_neg (by decide +kernel)]; rfl, hb _ ?_⟩
    refine ⟨b, s, es, rfl, hs, h, ok, l, fun p xs H' np e hp R => q p xs H' np e hp ⟨by rw [List.length_map]; exact R.1, fun i c hc => ?_⟩ (by rw [R.1]; have := mvsE_len s es; omega)⟩
    rw [List.getElem?_map, Option.map_eq_some_iff] at hc
    obtain ⟨z, hz, rfl⟩ := hc
    obtain ⟨y, hy, u, rfl, hx⟩ := R.2 i z hz
    exact ⟨_, hy, u, rfl, .hedge hx (mvsE_mem ok (List.mem_of_getElem? hz)).1 (by have := (mvsE_mem ok (List.mem_of_getElem? hz)).2.1; omega)⟩
  | @floor rs w h ok =>
    simp only [mvB] at q
    refine k_orR (k_orR (k_orL (hv _ ?_)))
    obtain ⟨dx, t, h1, h2⟩ := id h
    refine ⟨b, dx, _, rfl, h1, by unfold gfl; rw [lookup_putF, if_neg (by decide +kernel)]; rfl, hb _ ?_⟩
    refine ⟨b, s, rs, w, rfl, hs, h, ok, fun p xs H' np e hp R => q p xs H' np e hp ⟨by rw [List.length_map]; exact R.1, fun i c hc => ?_⟩ (by
      rw [R.1]
      have h1 := mvsL_lenM s w rs
      obtain ⟨a1, a2, a3, a4, a5⟩ := ok
      have h2 : rs.length * w ≤ 6 * 6 := Nat.mul_le_mul (by omega) (by omega)
      omega)⟩
    rw [List.getElem?_map, Option.map_eq_some_iff] at hc
    obtain ⟨z, hz, rfl⟩ := hc
    obtain ⟨y, hy, u, rfl, hx⟩ := R.2 i z hz
    exact ⟨_, hy, u, rfl, .floor hx (mvsL_ok ok _ (List.mem_of_getElem? hz))⟩
  | @frogs l h ok =>
    simp only [mvB] at q
    refine k_orR (k_orR (k_orR (k_orL (hv _ ?_))))
    obtain ⟨dx, h1⟩ := id h
    refine ⟨b, dx, _, rfl, h1, by unfold gfs; rw [lookup_putF, if_neg (by decide +kernel)]; rfl, hb _ ?_⟩
    refine ⟨b, s, l, rfl, hs, h, ok, fun p xs H' np e hp R => q p xs H' np e hp ⟨by rw [List.length_map]; exact R.1, fun i c hc => ?_⟩ (by
      rw [R.1]
      have h1 := mvsF_len s l l.length
      have h2 := ok.1
      show (mvsF s l).length ≤ _
      unfold mvsF
      omega)⟩
    rw [List.getElem?_map, Option.map_eq_some_iff] at hc
    obtain ⟨z, hz, rfl⟩ := hc
    obtain ⟨y, hy, u, rfl, hx⟩ := R.2 i z hz
    exact ⟨_, hy, u, rfl, .frogs hx (mvsF_ok ok _ (List.mem_of_getElem? hz))⟩
  | @cakes cs h ok =>
    simp only [mvB] at q
    refine k_orR (k_orR (k_orR (k_orR (k_orL (hv _ ?_)))))
    obtain ⟨dx, t, xs, h1, h2⟩ := id h
    refine ⟨b, dx, _, rfl, h1, by unfold cfs; rw [lookup_putF, if_neg (by decide +kernel)]; rfl, hb _ ?_⟩
    refine ⟨b, s, cs, rfl, h, ok, fun p xs H' np e hp R => q p xs H' np e hp ⟨by rw [List.length_map]; exact R.1, fun i c hc => ?_⟩ (by
      rw [R.1]
      have h1 := mvs_len (s := s) ok cs.length (Nat.le_refl _)
      have h2 : (cs.length : Int) ≤ sqs cs := len_sqs ok.1
      have h3 := ok.2
      show (mvsC s cs).length ≤ _
      unfold mvsC
      omega)⟩
    rw [List.getElem?_map, Option.map_eq_some_iff] at hc
    obtain ⟨z, hz, rfl⟩ := hc
    obtain ⟨y, hy, u, rfl, hx⟩ := R.2 i z hz
    exact ⟨_, hy, u, rfl, .cakes hx (okC_mvs ok (List.mem_of_getElem? hz))⟩
  | @table xs rs k h hr ok hkl =>
    obtain ⟨r, hk⟩ : ∃ r, rs[k]? = some r := ⟨_, List.getElem?_eq_getElem hkl⟩
    have emv : mvB s (.table rs k) = (sideG s r).map fun z => .table rs z.toNat := by simp only [mvB, hk]
    rw [emv] at q
    refine k_orR (k_orR (k_orR (k_orR (k_orR (hv _ ?_)))))
    obtain ⟨dx, t, h1, h2⟩ := id h
    refine ⟨b, dx, _, rfl, h1, tfs_no _ _ (by decide +kernel) (by decide +kernel), hb _ ?_⟩
    refine ⟨b, s, xs, rs, k, r, rfl, h, hr, ok, hk, fun p ys H' np e hp R => q p ys H' np e hp ⟨by rw [List.length_map]; exact R.1, fun i c hc => ?_⟩ (by
      rw [R.1]
      have h1 := (OkRT.side ok hk s).len
      have h2 := ok.2.1
      omega)⟩
    rw [List.getElem?_map, Option.map_eq_some_iff] at hc
    obtain ⟨z, hz, rfl⟩ := hc
    obtain ⟨u, hu, hx⟩ := R.2 i z hz
    have bz := (OkRT.side ok hk s).mem (List.mem_of_getElem? hz)
    refine ⟨_, hu, u, rfl, .table ?_ (hr.ex e) ok (by omega)⟩
    rw [show ((z.toNat : Nat) : Int) = z from by omega]; exact hx
def sp_Meeting_m_moves (K : PySem.W.Frag) : Sp := fun vs H Q _ => ∃ (a : Addr) (s : Str) (ys : List V) (gs : List BSt), vs = [.ref a, .str s] ∧ (s = "left" ∨ s = "right") ∧ MtAt K H a ys ∧ BsS K H ys gs ∧ ys.length ≤ 8 ∧ ∀ p zs H', H p = none → Ex H H' → H' p = some (.lst zs) → AllAt (PsAt K) H' zs (mvQ s gs) → zs.length ≤ 16000 → Q (.ref p) H'
local macro_rules | `(tactic| walk_at "mlk") => `(tactic| exact mfs_get _)
local macro_rules | `(tactic| walk_at "new") => `(tactic| ((first | refine ⟨fits (Nat.le_of_ble_eq_true rfl), ?_⟩ | skip); intro p np; generalize hq : upd _ p _ = H1; have e1 := nx np hq; have s1 := nS hq; clear hq))
local macro_rules | `(tactic| walk_at "mst") => `(tactic| first
  | with_reducible refine k_star ?_
  | with_reducible refine k_enumT ?_)
abbrev N_Meeting_m_moves : List Str := ["self", "side", "found", "place", "board", "other"]
def t_Meeting_m_moves (K : PySem.W.Frag) (E : XK) : TS := (tSeq (tAsg (tLst tNil) (gName 2)) (tSeq (tFor (iEnumT K (tCons (tFld K (tVar 0) "_boards") tNil)) (gTup K 2 (gCons (gName 3) (gCons (gName 4) gNil))) (tDrop (tBM K "list" rExtend (tVar 2) (tCons (tLc (iList K (tOrE (tMeth (He.ga K "Heaps") "moves" (sp_Heaps_m_moves K) [] E0 (tVar 4) (tCons (tVar 1) tNil)) (tOrE (tMeth (He.ga K "Hedge") "moves" (sp_Hedge_m_moves K) [] E0 (tVar 4) (tCons (tVar 1) tNil)) (tOrE (tMeth (He.ga K "Floor") "moves" (sp_Floor_m_moves K) [] E0 (tVar 4) (tCons (tVar 1) tNil)) (tOrE (tMeth (He.ga K "Frogs") "moves" (sp_Frogs_m_moves K) [] E0 (tVar 4) (tCons (tVar 1) tNil)) (tOrE (tMeth (He.ga K "Cakes") "moves" (sp_Cakes_m_moves K) [] E0 (tVar 4) (tCons (tVar 1) tNil)) (tMeth (He.ga K "Table") "moves" (sp_Table_m_moves K) [] E0 (tVar 4) (tCons (tVar 1) tNil)))))))) (gName 5) tYes (tTup (tCons (tVar 3) (tCons (tVar 5) tNil))) [5]) tNil)))) (tRet (tVar 2))))
theorem len_Meeting_m_moves {K : PySem.W.Frag} {vs : List V} {H : Hp} {Q : VK} {E : XK} (h : sp_Meeting_m_moves K vs H Q E) : vs.length = 2 := by
  obtain ⟨_, _, _, _, rfl, _⟩ := h; rfl
theorem pure_Meeting_m_moves {K : PySem.W.Frag} (F : FMeeting K) (vs : List V) (H : Hp) (Q : VK) (E : XK) (h : sp_Meeting_m_moves K vs H Q E) : t_Meeting_m_moves K E { nx := fun _ H' => Q .non H', rt := Q } (start N_Meeting_m_moves vs) H := by
  obtain ⟨a, s, ys, gs, rfl, hs, ⟨dx, t, h1, ht⟩, R, l8, q⟩ := h
  obtain ⟨cl, na⟩ := F
  have yl := R.1
  unfold t_Meeting_m_moves
  repeat walk_at "mst"
  walk_at "new"; rename_i fp nfp H1 e1 s1
  have hm1 := e1 _ _ h1
  have ht1 := e1 _ _ ht
  repeat walk_at "mst"
  refine ⟨t, _, rfl, k_st ht1, for_enumT (xs := ys) (fun i σ H' => ∃ (zs : List V) (x3 x4 : Option V), Ex H H' ∧ H' fp = some (.lst zs) ∧ AllAt (PsAt K) H' zs ((List.range i).flatMap (mvA s gs)) ∧ zs.length ≤ 2000 * i ∧ σ = [some (.ref a), some (.str s), some (.ref fp), x3, x4, none]) ⟨[], none, none, e1, s1, AllAt.nil, Nat.le_refl _, rfl⟩ ?_ ?_ ?_⟩
  · rintro i σ H' _ ⟨_, _, _, e, _⟩; exact k_st (e _ _ ht)
  · rintro i x σ H2 T hx ⟨zs, x3, x4, e, hf, bs, zl, rfl⟩ hT
    have hi := (List.getElem?_eq_some_iff.mp hx).1
    have hig : i < gs.length := by omega
    obtain ⟨y, hy, b, rfl, hb⟩ := R.2 i _ (List.getElem?_eq_getElem hig)
    rw [hx] at hy; cases hy
    have em : mvA s gs i = (mvB s (gs[i]'hig)).map fun d => (i, d) := by unfold mvA; rw [List.getElem?_eq_getElem hig]
    generalize gs[i]'hig = g at *
    have e2 : Ex H2 (upd H2 T (HO.tup [V.int (i : Int), V.ref b])) := Evl.Ex.new hT
    have sT : upd H2 T (HO.tup [V.int (i : Int), V.ref b]) T = some (HO.tup [V.int (i : Int), V.ref b]) := upd_same
    generalize upd H2 T (HO.tup [V.int (i : Int), V.ref b]) = H3 at *
    have hf3 := e2 _ _ hf
    refine k_gtup (k_st sT) rfl ?_
    repeat walk_at "mst"
    refine use_bmovesS hs (fun _ z => ⟨_, rfl, z⟩) (fun _ z => ⟨_, rfl, z⟩) (hb.kl (Kl.of (e.trans e2))) fun p ms H4 np e4 hp Rm ml => ?_
    refine ⟨p, rfl, ⟨_, k_sq hp⟩, lcR_st (fun n acc H' => Ex H4 H' ∧ AllAt (PsAt K) H' acc ((mvA s gs i).take n)) (fun n acc H' s => k_sq (s.1 _ _ hp)) (Nat.lt_of_le_of_lt (show _ ≤ 2000 by omega) (by decide)) ?_ (fun D hD => ⟨Evl.Ex.new hD, AllAt.nil⟩) ?_ ?_⟩
    · rintro D n acc zs' H H' hD hd k ⟨e, r⟩
      exact ⟨fun c o z => k _ _ (e _ _ z) (ne_of_none z hD), r.imp fun y c q => q.kl (Kl.set hd k)⟩
    · rintro n x' acc H5 D zs' hD hd hx' la ⟨e5, r⟩ R' r'
      have nl := (List.getElem?_eq_some_iff.mp hx').1
      have gl : n < (mvB s g).length := by rw [← Rm.1]; exact nl
      obtain ⟨y', hy', hb'⟩ := Rm.2 n _ (List.getElem?_eq_getElem gl)
      rw [hx'] at hy'; cases hy'
      repeat walk_at "mst"
      refine ⟨by show 2 ≤ sizeLine; decide, fun u nu => ?_⟩
      have e6 := Evl.Ex.new (o := HO.tup [V.int (i : Int), x']) nu
      have hu : upd H5 u (HO.tup [V.int (i : Int), x']) u = some (HO.tup [V.int (i : Int), x']) := upd_same
      generalize upd H5 u (HO.tup [V.int (i : Int), x']) = H6 at *
      refine r' _ H6 (e6 _ _ hd) ⟨e5.trans e6, ?_⟩
      rw [List.take_add_one, em, List.getElem?_map, List.getElem?_eq_getElem gl]
      rw [em] at r
      exact AllAt.app (r.imp fun y c q => q.kl (Kl.of e6)) (AllAt.one ⟨u, x', rfl, hu, hb'.kl (Kl.of (e5.trans e6))⟩)
    · rintro D acc H5 hD la hd ⟨e5, r⟩
      have ll : (mvA s gs i).length = ms.length := by rw [em, List.length_map]; exact Rm.1.symm
      rw [List.take_of_length_le (by omega)] at r
      have hf5 := e5 _ _ (e4 _ _ hf3)
      repeat walk_at "mst"
      refine ⟨fp, D, _, _, rfl, rfl, hf5, hd, Nat.le_trans (show _ ≤ 20000 by omega) (by decide), ?_⟩
      have k6 : ∀ c o, H5 c = some o → c ≠ fp → upd H5 fp (HO.lst (zs ++ acc)) c = some o := fun c o z n => (upd_ne n).trans z
      have e25 : Ex H2 H5 := (e2.trans e4).trans e5
      refine ⟨zs ++ acc, _, _, fun c o z => k6 _ _ (e25 _ _ (e _ _ z)) (ne_of_none z nfp), upd_same, ?_, by rw [List.length_append]; omega, rfl⟩
      rw [List.range_succ, List.flatMap_append, List.flatMap_singleton]
      exact AllAt.app (bs.imp fun y c q => q.kl ((Kl.of e25).trans (Kl.set hf5 k6))) (r.imp fun y c q => q.kl (Kl.set hf5 k6))
  · rintro σ H2 ⟨zs, x3, x4, e, hf, bs, zl, rfl⟩
    repeat walk_at "mst"
    rw [yl] at bs
    exact q fp zs H2 nfp e hf bs (by omega)
theorem use_mmoves {K : PySem.W.Frag} {H : Hp} {Q : VK} {E : XK} {a : Addr} {s : Str} {ys : List V} {gs : List BSt} (hs : s = "left" ∨ s = "right") (M : MtAt K H a ys) (R : BsS K H ys gs) (l8 : ys.length ≤ 8) (q : ∀ p zs H', H p = none → Ex H H' → H' p = some (.lst zs) → AllAt (PsAt K) H' zs (mvQ s gs) → zs.length ≤ 16000 → Q (.ref p) H') : sp_Meeting_m_moves K (.ref a :: ([.str s] ++ [])) H Q E := ⟨a, s, ys, gs, rfl, hs, M, R, l8, q⟩
def sp_Match_m_back (K : PySem.W.Frag) : Sp := fun vs H Q E => ∃ (a dx : Addr) (s : Str) (lm li : Addr) (GS : List (List BSt)) (ns : List Int), vs = [.ref a] ∧ MaS K a dx s lm li GS ns H ∧ (
  (ns = [] ∧ E (.ref (He.ga K "NoMove")) none H)
  ∨ (ns ≠ [] ∧ ∀ H', (∀ c o, H c = some o → c ≠ lm → c ≠ li → H' c = some o) → MaS K a dx s lm li GS.dropLast ns.dropLast H' → Q .non H'))
local macro_rules | `(tactic| walk_at "mlk") => `(tactic| first | exact mafs_f _ _ _ | exact mafs_m _ _ _ | exact mafs_i _ _ _)
abbrev N_Match_m_back : List Str := ["self"]
def t_Match_m_back (K : PySem.W.Frag) (E : XK) : TS := (tSeq (tIfS (tNot (tTru K (tFld K (tVar 0) "_indexes"))) (tRaise E (.ref (He.ga K "NoMove"))) tNext) (tSeq (tDrop (tBM0 K "list" rPop (tFld K (tVar 0) "_indexes"))) (tDrop (tBM0 K "list" rPop (tFld K (tVar 0) "_meetings")))))
theorem len_Match_m_back {K : PySem.W.Frag} {vs : List V} {H : Hp} {Q : VK} {E : XK} (h : sp_Match_m_back K vs H Q E) : vs.length = 1 := by
  obtain ⟨_, _, _, _, _, _, _, rfl, _⟩ := h; rfl
theorem pure_Match_m_back {K : PySem.W.Frag} (F : FMatch K) (vs : List V) (H : Hp) (Q : VK) (E : XK) (h : sp_Match_m_back K vs H Q E) : t_Match_m_back K E { nx := fun _ H' => Q .non H', rt := Q } (start N_Match_m_back vs) H := by
  obtain ⟨a, dx, s, lm, li, GS, ns, rfl, M, h⟩ := h
  obtain ⟨cl, nf, ni, nm⟩ := F
  have hi := M.hi
  obtain ⟨ms, hm, R⟩ := M.hm
  have hins := M.ins
  unfold t_Match_m_back
  rcases h with ⟨rfl, r⟩ | ⟨nn, q⟩
  · repeat walk_at "mst"
    refine ⟨false, Or.inl ⟨_, k_sq hi, rfl⟩, ?_⟩
    repeat walk_at "mst"
    exact r
  · have len := M.len
    have ml := R.1
    obtain ⟨ns0, z, rfl⟩ : ∃ ns0 z, ns = ns0 ++ [z] := ⟨ns.dropLast, ns.getLast nn, (List.dropLast_concat_getLast nn).symm⟩
    have mn : ms ≠ [] := fun h => by rw [h] at ml; simp at ml; omega
    obtain ⟨ms0, y, rfl⟩ : ∃ ms0 y, ms = ms0 ++ [y] := ⟨ms.dropLast, ms.getLast mn, (List.dropLast_concat_getLast mn).symm⟩
    rw [List.map_append, List.map_singleton] at hi
    rw [List.length_append, List.length_singleton] at ml len
    have hiL : H li = some (.lst (ns0.map V.int ++ [V.int z])) := hi
    repeat walk_at "mst"
    refine ⟨true, Or.inl ⟨_, k_sq hiL, by simp⟩, ?_⟩
    repeat walk_at "mst"
    refine k_rPop hiL ?_
    have k1 : ∀ c o, H c = some o → c ≠ li → upd H li (HO.lst (ns0.map V.int)) c = some o := fun c o z n => (upd_ne n).trans z
    have s1 : upd H li (HO.lst (ns0.map V.int)) li = some (HO.lst (ns0.map V.int)) := upd_same
    have kl1 : Kl H (upd H li (HO.lst (ns0.map V.int))) := Kl.set hiL k1
    generalize upd H li (HO.lst (ns0.map V.int)) = H1 at *
    have hins1 := k1 _ _ hins (ne_of hins hiL (by intro y; cases y))
    have hm1 := k1 _ _ hm M.ne
    repeat walk_at "mst"
    refine k_rPop hm1 ?_
    have k2 : ∀ c o, H1 c = some o → c ≠ lm → upd H1 lm (HO.lst ms0) c = some o := fun c o z n => (upd_ne n).trans z
    have s2 : upd H1 lm (HO.lst ms0) lm = some (HO.lst ms0) := upd_same
    have kl2 : Kl H1 (upd H1 lm (HO.lst ms0)) := Kl.set hm1 k2
    generalize upd H1 lm (HO.lst ms0) = H2 at *
    repeat walk_at "mst"
    refine q H2 (fun c o z n1 n2 => k2 _ _ (k1 _ _ z n2) n1) ⟨k2 _ _ hins1 (ne_of hins1 hm1 (by intro y; cases y)), ⟨ms0, s2, ?_⟩, ?_, ?_, M.fs, M.ne, ?_⟩
    · have Rt := (R.imp fun y c q => q.kl (kl1.trans kl2)).take ms0.length
      rw [List.take_left] at Rt
      rw [List.dropLast_eq_take, show GS.length - 1 = ms0.length by omega]
      exact Rt
    · rw [List.dropLast_concat]; exact k2 _ _ s1 M.ne.symm
    · rw [List.dropLast_concat, List.length_dropLast]; omega
    · have := M.few
      rw [List.dropLast_concat]
      rw [List.length_append] at this
      omega
theorem use_back {K : PySem.W.Frag} {H : Hp} {Q : VK} {E : XK} {a dx : Addr} {s : Str} {lm li : Addr} {GS : List (List BSt)} {ns : List Int} (M : MaS K a dx s lm li GS ns H) (h : (ns = [] ∧ E (.ref (He.ga K "NoMove")) none H) ∨ (ns ≠ [] ∧ ∀ H', (∀ c o, H c = some o → c ≠ lm → c ≠ li → H' c = some o) → MaS K a dx s lm li GS.dropLast ns.dropLast H' → Q .non H')) : sp_Match_m_back K (.ref a :: ([] ++ [])) H Q E := ⟨a, dx, s, lm, li, GS, ns, rfl, M, h⟩
def sp_Match_m_meeting (K : PySem.W.Frag) : Sp := fun vs H Q _ => ∃ (a dx : Addr) (s : Str) (lm li : Addr) (GS : List (List BSt)) (ns : List Int), vs = [.ref a] ∧ MaS K a dx s lm li GS ns H ∧ ∀ y gs, GS[ns.length]? = some gs → MtS K H y gs → Q y H
local macro_rules | `(tactic| walk_at "mlk") => `(tactic| first | exact mafs_f _ _ _ | exact mafs_m _ _ _ | exact mafs_i _ _ _)
abbrev N_Match_m_meeting : List Str := ["self"]
def t_Match_m_meeting (K : PySem.W.Frag) (E : XK) : TS := (tRet (tOp (rIxL K) (tFld K (tVar 0) "_meetings") (tUn rNegI (tC (.int 1)))))
theorem len_Match_m_meeting {K : PySem.W.Frag} {vs : List V} {H : Hp} {Q : VK} {E : XK} (h : sp_Match_m_meeting K vs H Q E) : vs.length = 1 := by
  obtain ⟨_, _, _, _, _, _, _, rfl, _⟩ := h; rfl
theorem last_at {α : Type} {l : List α} {n : Nat} (h : l.length = n + 1) {x : α} (e : l[n]? = some x) : atI l (-1) = some x := by
  unfold atI ixN
  rw [if_neg (by decide), if_pos (by omega)]
  rw [show (-1 + (l.length : Int)).toNat = n from by omega]
  exact e
theorem pure_Match_m_meeting {K : PySem.W.Frag} (F : FMatch K) (vs : List V) (H : Hp) (Q : VK) (E : XK) (h : sp_Match_m_meeting K vs H Q E) : t_Match_m_meeting K E { nx := fun _ H' => Q .non H', rt := Q } (start N_Match_m_meeting vs) H := by
  obtain ⟨a, dx, s, lm, li, GS, ns, rfl, M, q⟩ := h
  obtain ⟨cl, nf, ni, nm⟩ := F
  obtain ⟨ms, hm, R⟩ := M.hm
  have hins := M.ins
  have len := M.len
  obtain ⟨gs, hg⟩ : ∃ gs, GS[ns.length]? = some gs := ⟨_, List.getElem?_eq_getElem (by omega)⟩
  obtain ⟨y, hy, my⟩ := R.2 _ gs hg
  unfold t_Match_m_meeting
  repeat walk_at "mst"
  refine k_ixL (k_sq hm) (last_at (n := ns.length) (by rw [R.1]; exact len) hy) ?_
  repeat walk_at "mst"
  exact q y gs hg my
theorem use_meeting {K : PySem.W.Frag} {H : Hp} {Q : VK} {E : XK} {a dx : Addr} {s : Str} {lm li : Addr} {GS : List (List BSt)} {ns : List Int} (M : MaS K a dx s lm li GS ns H) (q : ∀ y gs, GS[ns.length]? = some gs → MtS K H y gs → Q y H) : sp_Match_m_meeting K (.ref a :: ([] ++ [])) H Q E := ⟨a, dx, s, lm, li, GS, ns, rfl, M, q⟩
def sp_other_side (K : PySem.W.Frag) : Sp := fun vs H Q _ => ∃ s : Str, vs = [.str s] ∧ Q (.str (if s = "left" then "right" else "left")) H
theorem k_eqStrO {H : Hp} {Q : VK} {a b : Str} (q : Q (.bl (decide (a = b))) H) : rEq (.str a) (.str b) H Q := ⟨rfl, by
  have e : decide (V.str a = V.str b) = decide (a = b) := decide_eq_decide.mpr ⟨fun h => V.str.inj h, fun h => by rw [h]⟩
  rw [e]; exact q⟩
abbrev N_other_side : List Str := ["side"]
def t_other_side (K : PySem.W.Frag) (E : XK) : TS := (tRet (tIf (tTest (tOp rEq (tVar 0) (tC (.str "left")))) (tC (.str "right")) (tC (.str "left"))))
theorem len_other_side {K : PySem.W.Frag} {vs : List V} {H : Hp} {Q : VK} {E : XK} (h : sp_other_side K vs H Q E) : vs.length = 1 := by
  obtain ⟨_, rfl, _⟩ := h; rfl
theorem pure_other_side {K : PySem.W.Frag} (vs : List V) (H : Hp) (Q : VK) (E : XK) (h : sp_other_side K vs H Q E) : t_other_side K E { nx := fun _ H' => Q .non H', rt := Q } (start N_other_side vs) H := by
  obtain ⟨s, rfl, q⟩ := h
  unfold t_other_side
  repeat walk_at "mst"
  refine k_eqStrO ?_
  repeat walk_at "mst"
  refine k_iteD (fun e => ?_) (fun e => ?_)
  · repeat walk_at "mst"
    rw [if_pos e] at q
    exact q
  · repeat walk_at "mst"
    rw [if_neg e] at q
    exact q
theorem use_other {K : PySem.W.Frag} {H : Hp} {Q : VK} {E : XK} {s : Str} (q : Q (.str (if s = "left" then "right" else "left")) H) : sp_other_side K ([.str s] ++ []) H Q E := ⟨s, rfl, q⟩
def sp_Match_m_turn (K : PySem.W.Frag) : Sp := fun vs H Q _ => ∃ (a dx : Addr) (s : Str) (lm li : Addr) (GS : List (List BSt)) (ns : List Int), vs = [.ref a] ∧ MaS K a dx s lm li GS ns H ∧ Q (.str (turS s ns.length)) H
local macro_rules | `(tactic| walk_at "mlk") => `(tactic| first | exact mafs_f _ _ _ | exact mafs_m _ _ _ | exact mafs_i _ _ _)
abbrev N_Match_m_turn : List Str := ["self"]
def t_Match_m_turn (K : PySem.W.Frag) (E : XK) : TS := (tRet (tIf (tTest (tOp rEq (tOp rAndI (tCB (rLenQ K) (tCons (tFld K (tVar 0) "_indexes") tNil)) (tC (.int 1))) (tC (.int 0)))) (tFld K (tVar 0) "_first") (tCall (sp_other_side K) [] E0 (tCons (tFld K (tVar 0) "_first") tNil))))
theorem len_Match_m_turn {K : PySem.W.Frag} {vs : List V} {H : Hp} {Q : VK} {E : XK} (h : sp_Match_m_turn K vs H Q E) : vs.length = 1 := by
  obtain ⟨_, _, _, _, _, _, _, rfl, _⟩ := h; rfl
theorem pure_Match_m_turn {K : PySem.W.Frag} (F : FMatch K) (vs : List V) (H : Hp) (Q : VK) (E : XK) (h : sp_Match_m_turn K vs H Q E) : t_Match_m_turn K E { nx := fun _ H' => Q .non H', rt := Q } (start N_Match_m_turn vs) H := by
  obtain ⟨a, dx, s, lm, li, GS, ns, rfl, M, q⟩ := h
  obtain ⟨cl, nf, ni, nm⟩ := F
  have hi := M.hi
  have hins := M.ins
  unfold t_Match_m_turn
  repeat walk_at "mst"
  rw [List.length_map, bitAnd1]
  refine k_iteD (fun e => ?_) (fun e => ?_)
  · have e2 : ns.length % 2 = 0 := by omega
    unfold turS at q
    rw [if_pos e2] at q
    repeat walk_at "mst"
    exact q
  · have e2 : ¬ ns.length % 2 = 0 := by omega
    unfold turS at q
    rw [if_neg e2] at q
    repeat walk_at "mst"
    refine use_other ?_
    repeat walk_at "mst"
    exact q
theorem use_turn {K : PySem.W.Frag} {H : Hp} {Q : VK} {E : XK} {a dx : Addr} {s : Str} {lm li : Addr} {GS : List (List BSt)} {ns : List Int} (M : MaS K a dx s lm li GS ns H) (q : Q (.str (turS s ns.length)) H) : sp_Match_m_turn K (.ref a :: ([] ++ [])) H Q E := ⟨a, dx, s, lm, li, GS, ns, rfl, M, q⟩
def sp_Match_m_moves (K : PySem.W.Frag) : Sp := fun vs H Q _ => ∃ (a dx : Addr) (s : Str) (lm li : Addr) (GS : List (List BSt)) (ns : List Int) (gs : List BSt), vs = [.ref a] ∧ MaS K a dx s lm li GS ns H ∧ GS[ns.length]? = some gs ∧ ∀ p zs H', H p = none → Ex H H' → H' p = some (.lst zs) → AllAt (PsAt K) H' zs (mvQ (turS s ns.length) gs) → zs.length ≤ 16000 → Q (.ref p) H'
local macro_rules | `(tactic| walk_at "mlk") => `(tactic| first | exact mafs_f _ _ _ | exact mafs_m _ _ _ | exact mafs_i _ _ _)
abbrev N_Match_m_moves : List Str := ["self"]
def t_Match_m_moves (K : PySem.W.Frag) (E : XK) : TS := (tRet (tMeth (He.ga K "Meeting") "moves" (sp_Meeting_m_moves K) [] E0 (tProp (He.ga K "Match") (sp_Match_m_meeting K) [] E0 (tVar 0)) (tCons (tProp (He.ga K "Match") (sp_Match_m_turn K) [] E0 (tVar 0)) tNil)))
theorem len_Match_m_moves {K : PySem.W.Frag} {vs : List V} {H : Hp} {Q : VK} {E : XK} (h : sp_Match_m_moves K vs H Q E) : vs.length = 1 := by
  obtain ⟨_, _, _, _, _, _, _, _, rfl, _⟩ := h; rfl
theorem pure_Match_m_moves {K : PySem.W.Frag} (vs : List V) (H : Hp) (Q : VK) (E : XK) (h : sp_Match_m_moves K vs H Q E) : t_Match_m_moves K E { nx := fun _ H' => Q .non H', rt := Q } (start N_Match_m_moves vs) H := by
  obtain ⟨a, dx, s, lm, li, GS, ns, gs, rfl, M, hg, q⟩ := h
  have hins := M.ins
  unfold t_Match_m_moves
  repeat walk_at "mst"
  refine ⟨a, dx, _, rfl, hins, ?_⟩
  refine use_meeting M fun y gs' hg' my => ?_
  rw [hg] at hg'; cases hg'
  obtain ⟨mt, ys, rfl, Mt, R, l8⟩ := my
  obtain ⟨dx2, t2, hi2, ht2⟩ := id Mt
  repeat walk_at "mst"
  refine ⟨mt, dx2, _, rfl, hi2, mfs_no t2 (by decide +kernel), ?_⟩
  repeat walk_at "mst"
  refine ⟨a, dx, _, rfl, hins, ?_⟩
  refine use_turn M ?_
  repeat walk_at "mst"
  refine use_mmoves (turS_or M.fs _) Mt R l8 fun p zs H' np e hp T tl => ?_
  repeat walk_at "mst"
  exact q p zs H' np e hp T tl
theorem use_mamoves {K : PySem.W.Frag} {H : Hp} {Q : VK} {E : XK} {a dx : Addr} {s : Str} {lm li : Addr} {GS : List (List BSt)} {ns : List Int} {gs : List BSt} (M : MaS K a dx s lm li GS ns H) (hg : GS[ns.length]? = some gs) (q : ∀ p zs H', H p = none → Ex H H' → H' p = some (.lst zs) → AllAt (PsAt K) H' zs (mvQ (turS s ns.length) gs) → zs.length ≤ 16000 → Q (.ref p) H') : sp_Match_m_moves K (.ref a :: ([] ++ [])) H Q E := ⟨a, dx, s, lm, li, GS, ns, gs, rfl, M, hg, q⟩
def sp_Meeting_m_moved (K : PySem.W.Frag) : Sp := fun vs H Q _ => ∃ (a : Addr) (ys : List V) (ds : List PyData) (k : Nat) (y : V) (d : PyData), vs = [.ref a, .int (k : Int), y] ∧ MtAt K H a ys ∧ BvS K H ys ds ∧ ys.length ≤ 8 ∧ k < ys.length ∧ BvV K H y d ∧ ∀ p H', H p = none → Ex H H' → MtAt K H' p (ys.set k y) → Q (.ref p) H'
local macro_rules | `(tactic| walk_at "mlk") => `(tactic| exact mfs_get _)
theorem BvS.set {K : PySem.W.Frag} {H : Hp} {ys : List V} {ds : List PyData} {k : Nat} {y : V} {d : PyData} (R : BvS K H ys ds) (h : BvV K H y d) : BvS K H (ys.set k y) (ds.set k d) := by
  refine ⟨by rw [List.length_set, List.length_set]; exact R.1, fun i c hc => ?_⟩
  rw [List.getElem?_set] at hc ⊢
  by_cases e : k = i
  · rw [if_pos e] at hc ⊢
    by_cases l : i < ds.length
    · rw [if_pos (by rw [e]; exact l)] at hc
      rw [if_pos (by rw [e, R.1]; exact l)]
      cases hc
      exact ⟨y, rfl, h⟩
    · rw [if_neg (by rw [e]; exact l)] at hc; cases hc
  · rw [if_neg e] at hc ⊢
    exact R.2 i c hc
abbrev N_Meeting_m_moved : List Str := ["self", "place", "board", "boards"]
def t_Meeting_m_moved (K : PySem.W.Frag) (E : XK) : TS := (tSeq (tAsg (tCB (rListQ K) (tCons (tFld K (tVar 0) "_boards") tNil)) (gName 3)) (tSeq (tAsg (tVar 2) (gSub (tVar 3) (tVar 1) L2.rSetL)) (tRet (tMake (He.ga K "Meeting") (sp_Meeting_d_init K) [] E0 (tCons (tVar 3) tNil)))))
theorem len_Meeting_m_moved {K : PySem.W.Frag} {vs : List V} {H : Hp} {Q : VK} {E : XK} (h : sp_Meeting_m_moved K vs H Q E) : vs.length = 3 := by
  obtain ⟨_, _, _, _, _, _, rfl, _⟩ := h; rfl
theorem pure_Meeting_m_moved {K : PySem.W.Frag} (F : FMeeting K) (vs : List V) (H : Hp) (Q : VK) (E : XK) (h : sp_Meeting_m_moved K vs H Q E) : t_Meeting_m_moved K E { nx := fun _ H' => Q .non H', rt := Q } (start N_Meeting_m_moved vs) H := by
  obtain ⟨a, ys, ds, k, y, d, rfl, ⟨dx, t, h1, h2⟩, R, l8, hk, hy, q⟩ := h
  obtain ⟨cl, na⟩ := F
  unfold t_Meeting_m_moved
  repeat walk_at "mst"
  refine fun p np => ?_
  have e1 := Evl.Ex.new (o := HO.lst ys) np
  have s1 : upd H p (HO.lst ys) p = some (HO.lst ys) := upd_same
  generalize upd H p (HO.lst ys) = H1 at *
  repeat walk_at "mst"
  refine ⟨p, _, k, k, rfl, rfl, s1, by unfold ixN; rw [if_pos (by omega), if_pos (by omega), Int.toNat_natCast], ?_⟩
  have e2 : Ex H (upd H1 p (HO.lst (ys.set k y))) := Evl.Ex.mut e1 np
  have s2 : upd H1 p (HO.lst (ys.set k y)) p = some (HO.lst (ys.set k y)) := upd_same
  generalize upd H1 p (HO.lst (ys.set k y)) = H2 at *
  repeat walk_at "mst"
  refine mk_mt (k_sq s2) ((R.set hy).kl (Kl.of e2)) (by rw [List.length_set]; exact l8) fun x H3 nx e3 hx => ?_
  repeat walk_at "mst"
  exact q x H3 (Evl.fresh_back e2 nx) (e2.trans e3) hx
theorem use_mmoved {K : PySem.W.Frag} {H : Hp} {Q : VK} {E : XK} {a : Addr} {ys : List V} {ds : List PyData} {k : Nat} {y : V} {d : PyData} (M : MtAt K H a ys) (R : BvS K H ys ds) (l8 : ys.length ≤ 8) (hk : k < ys.length) (hy : BvV K H y d) (q : ∀ p H', H p = none → Ex H H' → MtAt K H' p (ys.set k y) → Q (.ref p) H') : sp_Meeting_m_moved K (.ref a :: ([.int (k : Int), y] ++ [])) H Q E := ⟨a, ys, ds, k, y, d, rfl, M, R, l8, hk, hy, q⟩
def sp_Match_m_play (K : PySem.W.Frag) : Sp := fun vs H Q E => ∃ (a dx : Addr) (s : Str) (lm li : Addr) (GS : List (List BSt)) (ns : List Int) (gs : List BSt) (i : Int), vs = [.ref a, .int i] ∧ MaS K a dx s lm li GS ns H ∧ GS[ns.length]? = some gs ∧ ns.length < 1000 ∧ (
  ((i < 0 ∨ ((mvQ (turS s ns.length) gs).length : Int) ≤ i) ∧ ∀ H', Ex H H' → E (.ref (He.ga K "NoMove")) none H')
  ∨ ∃ m, 0 ≤ i ∧ (mvQ (turS s ns.length) gs)[i.toNat]? = some m ∧ ∀ H', (∀ c o, H c = some o → c ≠ lm → c ≠ li → H' c = some o) → MaS K a dx s lm li (GS ++ [gs.set m.1 m.2]) (ns ++ [i]) H' → Q .non H')
local macro_rules | `(tactic| walk_at "mlk") => `(tactic| first | exact mafs_f _ _ _ | exact mafs_m _ _ _ | exact mafs_i _ _ _)
abbrev N_Match_m_play : List Str := ["self", "index", "moves", "place", "board"]
def t_Match_m_play (K : PySem.W.Frag) (E : XK) : TS := (tSeq (tAsg (tMeth (He.ga K "Match") "moves" (sp_Match_m_moves K) [] E0 (tVar 0) tNil) (gName 2)) (tSeq (tIfS (tNot (tB (tCall (sp_is_whole K) [] E0 (tCons (tVar 1) (tCons (tC (.int 0)) (tCons (tOp rSubI (tCB (rLenQ K) (tCons (tVar 2) tNil)) (tC (.int 1))) tNil)))))) (tRaise E (.ref (He.ga K "NoMove"))) tNext) (tSeq (tAsg (tOp (rIxL K) (tVar 2) (tVar 1)) (gTup K 2 (gCons (gName 3) (gCons (gName 4) gNil)))) (tSeq (tDrop (tBM K "list" rAppend (tFld K (tVar 0) "_meetings") (tCons (tMeth (He.ga K "Meeting") "moved" (sp_Meeting_m_moved K) [] E0 (tProp (He.ga K "Match") (sp_Match_m_meeting K) [] E0 (tVar 0)) (tCons (tVar 3) (tCons (tVar 4) tNil))) tNil))) (tDrop (tBM K "list" rAppend (tFld K (tVar 0) "_indexes") (tCons (tVar 1) tNil)))))))
theorem len_Match_m_play {K : PySem.W.Frag} {vs : List V} {H : Hp} {Q : VK} {E : XK} (h : sp_Match_m_play K vs H Q E) : vs.length = 2 := by
  obtain ⟨_, _, _, _, _, _, _, _, _, rfl, _⟩ := h; rfl
theorem pure_Match_m_play {K : PySem.W.Frag} (F : FMatch K) (vs : List V) (H : Hp) (Q : VK) (E : XK) (h : sp_Match_m_play K vs H Q E) : t_Match_m_play K E { nx := fun _ H' => Q .non H', rt := Q } (start N_Match_m_play vs) H := by
  obtain ⟨a, dx, s, lm, li, GS, ns, gs, i, rfl, M, hg, few, h⟩ := h
  obtain ⟨cl, nf, ni, nm⟩ := F
  have hins := M.ins
  unfold t_Match_m_play
  repeat walk_at "mst"
  refine ⟨a, dx, _, rfl, hins, mafs_no _ _ _ (by decide +kernel) (by decide +kernel) (by decide +kernel), ?_⟩
  repeat walk_at "mst"
  refine use_mamoves M hg fun p zs H1 np e1 hp T tl => ?_
  have M1 := M.ex e1
  have hins1 := M1.ins
  have zl := T.1
  repeat walk_at "mst"
  refine ⟨⟨V.int i, "int", _, _, rfl, .int i⟩, ?_⟩
  rintro v H1' ⟨x', lo, hi, e, rfl, rfl⟩
  cases e
  repeat walk_at "mst"
  have ew : wholeV (V.int i) 0 ((zs.length : Int) - 1) = (decide (0 ≤ i) && decide (i ≤ (zs.length : Int) - 1)) := rfl
  rcases h with ⟨bad, r⟩ | ⟨m, i0, hm, q⟩
  · have ef : wholeV (V.int i) 0 ((zs.length : Int) - 1) = false := by
      rw [ew]
      rcases bad with b | b
      · rw [decide_eq_false (by omega)]; rfl
      · rw [decide_eq_false (show ¬ i ≤ (zs.length : Int) - 1 by omega), Bool.and_false]
    rw [ef]
    repeat walk_at "mst"
    exact r _ e1
  · have il := (List.getElem?_eq_some_iff.mp hm).1
    have et : wholeV (V.int i) 0 ((zs.length : Int) - 1) = true := by
      rw [ew, decide_eq_true i0, decide_eq_true (show i ≤ (zs.length : Int) - 1 by omega)]; rfl
    rw [et]
    obtain ⟨y, hy, u, o, rfl, hu, bo⟩ := T.2 _ m hm
    repeat walk_at "mst"
    refine k_ixL (k_sq hp) (v := .ref u) (by
      have z := atI_nat hy
      rw [show ((i.toNat : Nat) : Int) = i from by omega] at z
      exact z) ?_
    repeat walk_at "mst"
    refine k_gtup (k_st hu) rfl ?_
    obtain ⟨ms, hms, R⟩ := M1.hm
    repeat walk_at "mst"
    refine ⟨a, dx, _, rfl, hins1, ?_⟩
    refine use_meeting M1 fun yM gs' hg' my => ?_
    rw [hg] at hg'; cases hg'
    obtain ⟨mt, ys, rfl, Mt, Rb, l8⟩ := my
    obtain ⟨dx2, t2, hi2, ht2⟩ := id Mt
    repeat walk_at "mst"
    refine ⟨mt, dx2, _, rfl, hi2, mfs_no t2 (by decide +kernel), ?_⟩
    repeat walk_at "mst"
    have mlt := mvQ_lt (List.mem_of_getElem? hm)
    have yl := Rb.1
    refine use_mmoved Mt Rb.bv l8 (by omega) bo.bv fun x9 H2 nx9 e2 M9 => ?_
    have hms2 := e2 _ _ hms
    have M2 := M1.ex e2
    have R2 : AllAt (MtS K) H2 (ms ++ [.ref x9]) (GS ++ [gs.set m.1 m.2]) := AllAt.app (R.imp fun y c q => q.kl (Kl.of e2)) (AllAt.one ⟨x9, _, rfl, M9, (Rb.kl (Kl.of e2)).set (bo.kl (Kl.of e2)), by rw [List.length_set]; exact l8⟩)
    have glen := M.len
    have rlen := R.1
    repeat walk_at "mst"
    · exact Nat.lt_of_le_of_lt (show _ ≤ 2000 by omega) (by decide)
    have k3 : ∀ c o, H2 c = some o → c ≠ lm → upd H2 lm (HO.lst (ms ++ [V.ref x9])) c = some o := fun c o z n => (upd_ne n).trans z
    have s3 : upd H2 lm (HO.lst (ms ++ [V.ref x9])) lm = some (HO.lst (ms ++ [V.ref x9])) := upd_same
    have kl3 : Kl H2 (upd H2 lm (HO.lst (ms ++ [V.ref x9]))) := Kl.set hms2 k3
    generalize upd H2 lm (HO.lst (ms ++ [V.ref x9])) = H3 at *
    have hins3 := k3 _ _ M2.ins (ne_of M2.ins hms2 (by intro y; cases y))
    have hi3 := k3 _ _ M2.hi M.ne.symm
    repeat walk_at "mst"
    · rw [List.length_map]; exact Nat.lt_of_le_of_lt (show _ ≤ 2000 by omega) (by decide)
    have k4 : ∀ c o, H3 c = some o → c ≠ li → upd H3 li (HO.lst (ns.map V.int ++ [V.int i])) c = some o := fun c o z n => (upd_ne n).trans z
    have s4 : upd H3 li (HO.lst (ns.map V.int ++ [V.int i])) li = some (HO.lst (ns.map V.int ++ [V.int i])) := upd_same
    have kl4 : Kl H3 (upd H3 li (HO.lst (ns.map V.int ++ [V.int i]))) := Kl.set hi3 k4
    generalize upd H3 li (HO.lst (ns.map V.int ++ [V.int i])) = H4 at *
    refine q H4 (fun c o z n1 n2 => k4 _ _ (k3 _ _ (e2 _ _ (e1 _ _ z)) n1) n2) ⟨k4 _ _ hins3 (ne_of hins3 hi3 (by intro y; cases y)), ⟨_, k4 _ _ s3 M.ne, R2.imp fun y c q => q.kl (kl3.trans kl4)⟩, ?_, ?_, M.fs, M.ne, ?_⟩
    · rw [List.map_append]; exact s4
    · rw [List.length_append, List.length_append, glen]; rfl
    · rw [List.length_append, List.length_singleton]; omega
theorem use_play {K : PySem.W.Frag} {H : Hp} {Q : VK} {E : XK} {a dx : Addr} {s : Str} {lm li : Addr} {GS : List (List BSt)} {ns : List Int} {gs : List BSt} {i : Int} (M : MaS K a dx s lm li GS ns H) (hg : GS[ns.length]? = some gs) (few : ns.length < 1000) (h : ((i < 0 ∨ ((mvQ (turS s ns.length) gs).length : Int) ≤ i) ∧ ∀ H', Ex H H' → E (.ref (He.ga K "NoMove")) none H')
  ∨ ∃ m, 0 ≤ i ∧ (mvQ (turS s ns.length) gs)[i.toNat]? = some m ∧ ∀ H', (∀ c o, H c = some o → c ≠ lm → c ≠ li → H' c = some o) → MaS K a dx s lm li (GS ++ [gs.set m.1 m.2]) (ns ++ [i]) H' → Q .non H') : sp_Match_m_play K (.ref a :: ([.int i] ++ [])) H Q E := ⟨a, dx, s, lm, li, GS, ns, gs, i, rfl, M, hg, few, h⟩
structure FNoMoveM (K : PySem.W.Frag) : Prop where
  ex : PySem.W.exmOne K (.ref (He.ga K "NoMove")) (.ref (He.ga K "NoMove")) = some true
  k1 : PySem.W.kitOne K (.ref (He.ga K "NoMove")) (.ref (He.ga K "BadValue")) = some false
  k2 : PySem.W.kitOne K (.ref (He.ga K "NoMove")) (.ref (He.ga K "BadText")) = some false
  k3 : PySem.W.kitOne K (.ref (He.ga K "NoMove")) (.ref (He.ga K "Unknown")) = some false
  k4 : PySem.W.kitOne K (.ref (He.ga K "NoMove")) (.ref (He.ga K "PlayError")) = some true
  k5 : PySem.W.kitOne K (.ref (He.ga K "NoMove")) (.type "ValueError") = some true
def sp_law_no_move (K : PySem.W.Frag) : Sp := fun vs H Q _ => ∃ (a dx : Addr) (s : Str) (lm li : Addr) (GS : List (List BSt)) (ns : List Int) (gs : List BSt) (x : V), vs = [.ref a, x] ∧ MaS K a dx s lm li GS ns H ∧ GS[ns.length]? = some gs ∧ ns.length < 1000 ∧
  ((x = .non ∧ ns = []) ∨ ∃ i, x = .int i ∧ (i < 0 ∨ ((mvQ (turS s ns.length) gs).length : Int) ≤ i)) ∧ ∀ H', Ex H H' → Q (.bl true) H'
local macro_rules | `(tactic| walk_at "mst") => `(tactic| first
  | with_reducible refine k_tryAs ?_
  | with_reducible refine k_methE ?_
  | with_reducible refine k_when ⟨rfl, rfl⟩ ?_
  | ((refine k_isE (b := ?_) ?_ rel_ref ?_); rotate_left; (focus assumption))
  | ((refine k_isE (b := ?_) ?_ rel_ty ?_); rotate_left; (focus assumption)))
abbrev N_law_no_move : List Str := ["match", "index", "e"]
def t_law_no_move (K : PySem.W.Frag) (E : XK) : TS := (tSeq (tTryAs K (.ref (He.ga K "NoMove")) 2 (fun W => (tIfS (tTest (tOp rIsN (tVar 1) (tC .non))) (tDrop (tMethE (He.ga K "Match") "back" (sp_Match_m_back K) (WE W) (tVar 0) tNil)) (tDrop (tMethE (He.ga K "Match") "play" (sp_Match_m_play K) (WE W) (tVar 0) (tCons (tVar 1) tNil))))) (fun a cls d => tWhen (cls = .ref (He.ga K "NoMove") ∧ d = none) (tSeq (tIfS (tOr (tB (tCB (rIsE K (He.ga K "NoMove") a) (tCons (tVar 2) (tCons (tC (.ref (He.ga K "BadValue"))) tNil)))) (tOr (tB (tCB (rIsE K (He.ga K "NoMove") a) (tCons (tVar 2) (tCons (tC (.ref (He.ga K "BadText"))) tNil)))) (tB (tCB (rIsE K (He.ga K "NoMove") a) (tCons (tVar 2) (tCons (tC (.ref (He.ga K "Unknown"))) tNil)))))) (tRet (tC (.bl false))) tNext) (tRet (tAndV (tCB (rIsE K (He.ga K "NoMove") a) (tCons (tVar 2) (tCons (tC (.ref (He.ga K "PlayError"))) tNil))) (tCB (rIsE K (He.ga K "NoMove") a) (tCons (tVar 2) (tCons (tC (.ty "ValueError")) tNil)))))))) (tRet (tC (.bl false))))
theorem len_law_no_move {K : PySem.W.Frag} {vs : List V} {H : Hp} {Q : VK} {E : XK} (h : sp_law_no_move K vs H Q E) : vs.length = 2 := by
  obtain ⟨_, _, _, _, _, _, _, _, _, rfl, _⟩ := h; rfl
theorem pure_law_no_move {K : PySem.W.Frag} (F : FNoMoveM K) (vs : List V) (H : Hp) (Q : VK) (E : XK) (h : sp_law_no_move K vs H Q E) : t_law_no_move K E { nx := fun _ H' => Q .non H', rt := Q } (start N_law_no_move vs) H := by
  obtain ⟨a, dx, s, lm, li, GS, ns, gs, x, rfl, M, hg, few, h, q⟩ := h
  obtain ⟨f0, f1, f2, f3, f4, f5⟩ := F
  have hins := M.ins
  unfold t_law_no_move
  rcases h with ⟨rfl, hn⟩ | ⟨i, rfl, bad⟩
  · repeat walk_at "mst"
    rw [decide_eq_true (show (V.non = V.non) from rfl)]
    repeat walk_at "mst"
    refine ⟨a, dx, _, rfl, hins, mafs_no _ _ _ (by decide +kernel) (by decide +kernel) (by decide +kernel), ?_⟩
    repeat walk_at "mst"
    refine use_back M (Or.inl ⟨hn, ?_⟩)
    refine k_wAs f0 fun a ha => ?_
    repeat walk_at "mst"
    exact q _ (Evl.Ex.refl _)
  · repeat walk_at "mst"
    rw [decide_eq_false (show ¬ (V.int i = V.non) from fun h => by cases h)]
    repeat walk_at "mst"
    refine ⟨a, dx, _, rfl, hins, mafs_no _ _ _ (by decide +kernel) (by decide +kernel) (by decide +kernel), ?_⟩
    repeat walk_at "mst"
    refine use_play M hg few (Or.inl ⟨bad, fun H1 e1 => ?_⟩)
    refine k_wAs f0 fun a ha => ?_
    repeat walk_at "mst"
    exact q _ e1
theorem use_nomove {K : PySem.W.Frag} {H : Hp} {Q : VK} {E : XK} {a dx : Addr} {s : Str} {lm li : Addr} {GS : List (List BSt)} {ns : List Int} {gs : List BSt} {x : V} (M : MaS K a dx s lm li GS ns H) (hg : GS[ns.length]? = some gs) (few : ns.length < 1000) (h : (x = .non ∧ ns = []) ∨ ∃ i, x = .int i ∧ (i < 0 ∨ ((mvQ (turS s ns.length) gs).length : Int) ≤ i)) (q : ∀ H', Ex H H' → Q (.bl true) H') : sp_law_no_move K ([.ref a, x] ++ []) H Q E := ⟨a, dx, s, lm, li, GS, ns, gs, x, rfl, M, hg, few, h, q⟩
def sp_Meeting_m_boards (K : PySem.W.Frag) : Sp := fun vs H Q _ => ∃ (a : Addr) (ys : List V), vs = [.ref a] ∧ MtAt K H a ys ∧ ys.length ≤ 8 ∧ ∀ p H', H p = none → Ex H H' → H' p = some (.lst ys) → Q (.ref p) H'
local macro_rules | `(tactic| walk_at "mlk") => `(tactic| exact mfs_get _)
abbrev N_Meeting_m_boards : List Str := ["self"]
def t_Meeting_m_boards (K : PySem.W.Frag) (E : XK) : TS := (tRet (tCB (rListQ K) (tCons (tFld K (tVar 0) "_boards") tNil)))
theorem len_Meeting_m_boards {K : PySem.W.Frag} {vs : List V} {H : Hp} {Q : VK} {E : XK} (h : sp_Meeting_m_boards K vs H Q E) : vs.length = 1 := by
  obtain ⟨_, _, rfl, _⟩ := h; rfl
theorem pure_Meeting_m_boards {K : PySem.W.Frag} (F : FMeeting K) (vs : List V) (H : Hp) (Q : VK) (E : XK) (h : sp_Meeting_m_boards K vs H Q E) : t_Meeting_m_boards K E { nx := fun _ H' => Q .non H', rt := Q } (start N_Meeting_m_boards vs) H := by
  obtain ⟨a, ys, rfl, ⟨dx, t, h1, h2⟩, l8, q⟩ := h
  obtain ⟨cl, na⟩ := F
  unfold t_Meeting_m_boards
  repeat walk_at "mst"
  exact fun p np => q p _ np (Evl.Ex.new np) upd_same
theorem use_mboards {K : PySem.W.Frag} {H : Hp} {Q : VK} {E : XK} {a : Addr} {ys : List V} (M : MtAt K H a ys) (l8 : ys.length ≤ 8) (q : ∀ p H', H p = none → Ex H H' → H' p = some (.lst ys) → Q (.ref p) H') : sp_Meeting_m_boards K (.ref a :: ([] ++ [])) H Q E := ⟨a, ys, rfl, M, l8, q⟩
def sp_Match_m_record (K : PySem.W.Frag) : Sp := fun vs H Q _ => ∃ (a dx : Addr) (s : Str) (lm li : Addr) (GS : List (List BSt)) (ns : List Int), vs = [.ref a] ∧ MaS K a dx s lm li GS ns H ∧ ∀ p H', H p = none → Ex H H' → H' p = some (.lst (ns.map V.int)) → Q (.ref p) H'
local macro_rules | `(tactic| walk_at "mlk") => `(tactic| first | exact mafs_f _ _ _ | exact mafs_m _ _ _ | exact mafs_i _ _ _)
abbrev N_Match_m_record : List Str := ["self"]
def t_Match_m_record (K : PySem.W.Frag) (E : XK) : TS := (tRet (tCB (rListQ K) (tCons (tFld K (tVar 0) "_indexes") tNil)))
theorem len_Match_m_record {K : PySem.W.Frag} {vs : List V} {H : Hp} {Q : VK} {E : XK} (h : sp_Match_m_record K vs H Q E) : vs.length = 1 := by
  obtain ⟨_, _, _, _, _, _, _, rfl, _⟩ := h; rfl
theorem pure_Match_m_record {K : PySem.W.Frag} (F : FMatch K) (vs : List V) (H : Hp) (Q : VK) (E : XK) (h : sp_Match_m_record K vs H Q E) : t_Match_m_record K E { nx := fun _ H' => Q .non H', rt := Q } (start N_Match_m_record vs) H := by
  obtain ⟨a, dx, s, lm, li, GS, ns, rfl, M, q⟩ := h
  obtain ⟨cl, nf, ni, nm⟩ := F
  have hi := M.hi
  have hins := M.ins
  unfold t_Match_m_record
  repeat walk_at "mst"
  exact fun p np => q p _ np (Evl.Ex.new np) upd_same
theorem use_record {K : PySem.W.Frag} {H : Hp} {Q : VK} {E : XK} {a dx : Addr} {s : Str} {lm li : Addr} {GS : List (List BSt)} {ns : List Int} (M : MaS K a dx s lm li GS ns H) (q : ∀ p H', H p = none → Ex H H' → H' p = some (.lst (ns.map V.int)) → Q (.ref p) H') : sp_Match_m_record K (.ref a :: ([] ++ [])) H Q E := ⟨a, dx, s, lm, li, GS, ns, rfl, M, q⟩
def sp_Match_m_winner (K : PySem.W.Frag) : Sp := fun vs H Q _ => ∃ (a dx : Addr) (s : Str) (lm li : Addr) (GS : List (List BSt)) (ns : List Int) (gs : List BSt), vs = [.ref a] ∧ MaS K a dx s lm li GS ns H ∧ GS[ns.length]? = some gs ∧ ∀ H', Ex H H' → Q (if (mvQ (turS s ns.length) gs).length = 0 then .str (othS (turS s ns.length)) else .non) H'
abbrev N_Match_m_winner : List Str := ["self"]
def t_Match_m_winner (K : PySem.W.Frag) (E : XK) : TS := (tRet (tIf (tTru K (tMeth (He.ga K "Match") "moves" (sp_Match_m_moves K) [] E0 (tVar 0) tNil)) (tC .non) (tCall (sp_other_side K) [] E0 (tCons (tProp (He.ga K "Match") (sp_Match_m_turn K) [] E0 (tVar 0)) tNil))))
theorem len_Match_m_winner {K : PySem.W.Frag} {vs : List V} {H : Hp} {Q : VK} {E : XK} (h : sp_Match_m_winner K vs H Q E) : vs.length = 1 := by
  obtain ⟨_, _, _, _, _, _, _, _, rfl, _⟩ := h; rfl
theorem pure_Match_m_winner {K : PySem.W.Frag} (vs : List V) (H : Hp) (Q : VK) (E : XK) (h : sp_Match_m_winner K vs H Q E) : t_Match_m_winner K E { nx := fun _ H' => Q .non H', rt := Q } (start N_Match_m_winner vs) H := by
  obtain ⟨a, dx, s, lm, li, GS, ns, gs, rfl, M, hg, q⟩ := h
  have hins := M.ins
  unfold t_Match_m_winner
  repeat walk_at "mst"
  refine ⟨a, dx, _, rfl, hins, mafs_no _ _ _ (by decide +kernel) (by decide +kernel) (by decide +kernel), ?_⟩
  repeat walk_at "mst"
  refine use_mamoves M hg fun p zs H' np e hp T tl => ?_
  have M' := M.ex e
  repeat walk_at "mst"
  have zl : zs.length = (mvQ (turS s ns.length) gs).length := T.1
  cases zs with
  | nil =>
    refine ⟨false, Or.inl ⟨_, k_sq hp, rfl⟩, ?_⟩
    have q := q _ e
    rw [if_pos (by rw [← zl]; rfl)] at q
    repeat walk_at "mst"
    refine ⟨a, dx, _, rfl, M'.ins, ?_⟩
    refine use_turn M' ?_
    repeat walk_at "mst"
    refine use_other ?_
    exact q
  | cons z zs =>
    refine ⟨true, Or.inl ⟨_, k_sq hp, rfl⟩, ?_⟩
    have q := q _ e
    rw [if_neg (by rw [← zl, List.length_cons]; omega)] at q
    repeat walk_at "mst"
    exact q
theorem use_winner {K : PySem.W.Frag} {H : Hp} {Q : VK} {E : XK} {a dx : Addr} {s : Str} {lm li : Addr} {GS : List (List BSt)} {ns : List Int} {gs : List BSt} (M : MaS K a dx s lm li GS ns H) (hg : GS[ns.length]? = some gs) (q : ∀ H', Ex H H' → Q (if (mvQ (turS s ns.length) gs).length = 0 then .str (othS (turS s ns.length)) else .non) H') : sp_Match_m_winner K (.ref a :: ([] ++ [])) H Q E := ⟨a, dx, s, lm, li, GS, ns, gs, rfl, M, hg, q⟩
def sp_Heaps_m_value (K : PySem.W.Frag) : Sp := fun vs H Q _ => ∃ (b : Addr) (ns : List Int), vs = [.ref b] ∧ HpAt K H b ns ∧ ∀ p t H', H p = none → Ex H H' → H' p = some (.tup [.str "heaps", .ref t]) → H' t = some (.tup (ns.map V.int)) → Q (.ref p) H'
local macro_rules | `(tactic| walk_at "mlk") => `(tactic| exact hfs_get _)
abbrev N_Heaps_m_value : List Str := ["self"]
def t_Heaps_m_value (K : PySem.W.Frag) (E : XK) : TS := (tRet (tTup (tCons (tC (.str "heaps")) (tCons (tFld K (tVar 0) "_sizes") tNil))))
theorem len_Heaps_m_value {K : PySem.W.Frag} {vs : List V} {H : Hp} {Q : VK} {E : XK} (h : sp_Heaps_m_value K vs H Q E) : vs.length = 1 := by
  obtain ⟨_, _, rfl, _⟩ := h; rfl
theorem pure_Heaps_m_value {K : PySem.W.Frag} (F : FHeaps K) (vs : List V) (H : Hp) (Q : VK) (E : XK) (h : sp_Heaps_m_value K vs H Q E) : t_Heaps_m_value K E { nx := fun _ H' => Q .non H', rt := Q } (start N_Heaps_m_value vs) H := by
  obtain ⟨b, ns, rfl, ⟨dx, t, hb, ht⟩, q⟩ := h
  unfold t_Heaps_m_value
  obtain ⟨cl, na⟩ := F
  repeat walk_at "mst"
  exact ⟨two_le _ _, fun p np => q p t _ np (Evl.Ex.new np) upd_same ((Evl.Ex.new np) _ _ ht)⟩
theorem use_hvalue {K : PySem.W.Frag} {H : Hp} {Q : VK} {E : XK} {b : Addr} {ns : List Int} (h : HpAt K H b ns) (q : ∀ p t H', H p = none → Ex H H' → H' p = some (.tup [.str "heaps", .ref t]) → H' t = some (.tup (ns.map V.int)) → Q (.ref p) H') : sp_Heaps_m_value K (.ref b :: ([] ++ [])) H Q E := ⟨b, ns, rfl, h, q⟩
def sp_Floor_m_value (K : PySem.W.Frag) : Sp := fun vs H Q _ => ∃ (b : Addr) (l : Fl), vs = [.ref b] ∧ FlAt K H b l ∧ ∀ v H', Ex H H' → DuL H' v l → Q v H'
local macro_rules | `(tactic| walk_at "mlk") => `(tactic| exact gfl_get _)
abbrev N_Floor_m_value : List Str := ["self"]
def t_Floor_m_value (K : PySem.W.Frag) (E : XK) : TS := (tRet (tTup (tCons (tC (.str "floor")) (tCons (tFld K (tVar 0) "_rows") tNil))))
theorem len_Floor_m_value {K : PySem.W.Frag} {vs : List V} {H : Hp} {Q : VK} {E : XK} (h : sp_Floor_m_value K vs H Q E) : vs.length = 1 := by
  obtain ⟨_, _, rfl, _⟩ := h; rfl
theorem pure_Floor_m_value {K : PySem.W.Frag} (F : FFloor K) (vs : List V) (H : Hp) (Q : VK) (E : XK) (h : sp_Floor_m_value K vs H Q E) : t_Floor_m_value K E { nx := fun _ H' => Q .non H', rt := Q } (start N_Floor_m_value vs) H := by
  obtain ⟨b, l, rfl, ⟨dx, t, hb, ht⟩, q⟩ := h
  unfold t_Floor_m_value
  obtain ⟨cl, na⟩ := F
  repeat walk_at "mst"
  exact ⟨fits (Nat.le_of_ble_eq_true rfl), fun p np => q _ _ (Evl.Ex.new np) ⟨p, t, rfl, upd_same, Evl.Ex.new np _ _ ht⟩⟩
theorem use_flvalue {K : PySem.W.Frag} {H : Hp} {Q : VK} {E : XK} {b : Addr} {l : Fl} (h : FlAt K H b l) (q : ∀ v H', Ex H H' → DuL H' v l → Q v H') : sp_Floor_m_value K (.ref b :: ([] ++ [])) H Q E := ⟨b, l, rfl, h, q⟩
def sp_Frogs_m_value (K : PySem.W.Frag) : Sp := fun vs H Q _ => ∃ (b : Addr) (l : List Nat), vs = [.ref b] ∧ FgAt K H b l ∧ ∀ v H', Ex H H' → DuF H' v l → Q v H'
local macro_rules | `(tactic| walk_at "mlk") => `(tactic| exact gfs_get _)
abbrev N_Frogs_m_value : List Str := ["self"]
def t_Frogs_m_value (K : PySem.W.Frag) (E : XK) : TS := (tRet (tTup (tCons (tC (.str "frogs")) (tCons (tFld K (tVar 0) "_line") tNil))))
theorem len_Frogs_m_value {K : PySem.W.Frag} {vs : List V} {H : Hp} {Q : VK} {E : XK} (h : sp_Frogs_m_value K vs H Q E) : vs.length = 1 := by
  obtain ⟨_, _, rfl, _⟩ := h; rfl
theorem pure_Frogs_m_value {K : PySem.W.Frag} (F : FFrogs K) (vs : List V) (H : Hp) (Q : VK) (E : XK) (h : sp_Frogs_m_value K vs H Q E) : t_Frogs_m_value K E { nx := fun _ H' => Q .non H', rt := Q } (start N_Frogs_m_value vs) H := by
  obtain ⟨b, l, rfl, ⟨dx, hb⟩, q⟩ := h
  unfold t_Frogs_m_value
  obtain ⟨cl, na⟩ := F
  repeat walk_at "mst"
  exact ⟨fits (Nat.le_of_ble_eq_true rfl), fun p np => q _ _ (Evl.Ex.new np) ⟨p, rfl, upd_same⟩⟩
theorem use_fvalue {K : PySem.W.Frag} {H : Hp} {Q : VK} {E : XK} {b : Addr} {l : List Nat} (h : FgAt K H b l) (q : ∀ v H', Ex H H' → DuF H' v l → Q v H') : sp_Frogs_m_value K (.ref b :: ([] ++ [])) H Q E := ⟨b, l, rfl, h, q⟩
def sp_Cakes_m_value (K : PySem.W.Frag) : Sp := fun vs H Q _ => ∃ (b : Addr) (cs : List Ck), vs = [.ref b] ∧ CbAt K H b cs ∧ ∀ v H', Ex H H' → DuC H' v cs → Q v H'
local macro_rules | `(tactic| walk_at "mlk") => `(tactic| exact cfs_get _)
abbrev N_Cakes_m_value : List Str := ["self"]
def t_Cakes_m_value (K : PySem.W.Frag) (E : XK) : TS := (tRet (tTup (tCons (tC (.str "cakes")) (tCons (tFld K (tVar 0) "_cakes") tNil))))
theorem len_Cakes_m_value {K : PySem.W.Frag} {vs : List V} {H : Hp} {Q : VK} {E : XK} (h : sp_Cakes_m_value K vs H Q E) : vs.length = 1 := by
  obtain ⟨_, _, rfl, _⟩ := h; rfl
theorem pure_Cakes_m_value {K : PySem.W.Frag} (F : FCakes K) (vs : List V) (H : Hp) (Q : VK) (E : XK) (h : sp_Cakes_m_value K vs H Q E) : t_Cakes_m_value K E { nx := fun _ H' => Q .non H', rt := Q } (start N_Cakes_m_value vs) H := by
  obtain ⟨b, cs, rfl, ⟨dx, t, xs, hb, ht, R⟩, q⟩ := h
  unfold t_Cakes_m_value
  obtain ⟨cl, na⟩ := F
  repeat walk_at "mst"
  exact ⟨fits (Nat.le_of_ble_eq_true rfl), fun p np => q _ _ (Evl.Ex.new np) ⟨p, t, xs, rfl, upd_same, (Evl.Ex.new np) _ _ ht, R.ex (Evl.Ex.new np)⟩⟩
theorem use_cvalue {K : PySem.W.Frag} {H : Hp} {Q : VK} {E : XK} {b : Addr} {cs : List Ck} (h : CbAt K H b cs) (q : ∀ v H', Ex H H' → DuC H' v cs → Q v H') : sp_Cakes_m_value K (.ref b :: ([] ++ [])) H Q E := ⟨b, cs, rfl, h, q⟩
def sp_Table_m_value (K : PySem.W.Frag) : Sp := fun vs H Q _ => ∃ (b : Addr) (xs : List V) (pl : V), vs = [.ref b] ∧ TbAt K H b xs pl ∧ ∀ p t H', H p = none → Ex H H' → H' p = some (.tup [.str "table", .ref t, pl]) → H' t = some (.tup xs) → Q (.ref p) H'
local macro_rules | `(tactic| walk_at "mlk") => `(tactic| first | exact tfs_rows _ _ | exact tfs_place _ _)
abbrev N_Table_m_value : List Str := ["self"]
def t_Table_m_value (K : PySem.W.Frag) (E : XK) : TS := (tRet (tTup (tCons (tC (.str "table")) (tCons (tFld K (tVar 0) "_rows") (tCons (tFld K (tVar 0) "_place") tNil)))))
theorem len_Table_m_value {K : PySem.W.Frag} {vs : List V} {H : Hp} {Q : VK} {E : XK} (h : sp_Table_m_value K vs H Q E) : vs.length = 1 := by
  obtain ⟨_, _, _, rfl, _⟩ := h; rfl
theorem pure_Table_m_value {K : PySem.W.Frag} (F : FTable K) (vs : List V) (H : Hp) (Q : VK) (E : XK) (h : sp_Table_m_value K vs H Q E) : t_Table_m_value K E { nx := fun _ H' => Q .non H', rt := Q } (start N_Table_m_value vs) H := by
  obtain ⟨b, xs, pl, rfl, ⟨dx, t, hb, ht⟩, q⟩ := h
  unfold t_Table_m_value
  obtain ⟨cl, np, nr⟩ := F
  repeat walk_at "mst"
  exact ⟨fits (Nat.le_of_ble_eq_true rfl), fun p np => q p t _ np (Evl.Ex.new np) upd_same ((Evl.Ex.new np) _ _ ht)⟩
theorem use_tvalue {K : PySem.W.Frag} {H : Hp} {Q : VK} {E : XK} {b : Addr} {xs : List V} {pl : V} (h : TbAt K H b xs pl) (q : ∀ p t H', H p = none → Ex H H' → H' p = some (.tup [.str "table", .ref t, pl]) → H' t = some (.tup xs) → Q (.ref p) H') : sp_Table_m_value K (.ref b :: ([] ++ [])) H Q E := ⟨b, xs, pl, rfl, h, q⟩
/-- a board's value -/
theorem use_bval {K : PySem.W.Frag} {σ : L2.St} {H : Hp} {Q : VK} {ta : TE} {b : Addr} {d : PyData} (hv : ∀ Q' : VK, Q' (.ref b) H → ta σ H Q') (h : Bv K H b d) (q : ∀ v H', Ex H H' → Dt H' v d → Q v H') :
    (tOrE (tMeth (He.ga K "Heaps") "value" (sp_Heaps_m_value K) [] E0 ta tNil) (tOrE (tMeth (He.ga K "Hedge") "value" (sp_Hedge_m_value K) [] E0 ta tNil) (tOrE (tMeth (He.ga K "Floor") "value" (sp_Floor_m_value K) [] E0 ta tNil) (tOrE (tMeth (He.ga K "Frogs") "value" (sp_Frogs_m_value K) [] E0 ta tNil) (tOrE (tMeth (He.ga K "Cakes") "value" (sp_Cakes_m_value K) [] E0 ta tNil) (tMeth (He.ga K "Table") "value" (sp_Table_m_value K) [] E0 ta tNil)))))) σ H Q := by
  cases h with
  | @heaps ns h =>
    refine k_orL (hv _ ?_)
    obtain ⟨dx, t, h1, h2⟩ := id h
    refine ⟨b, dx, _, rfl, h1, by unfold hfs; rw [lookup_putF, if_neg (by decide +kernel)]; rfl, ?_⟩
    exact ⟨b, ns, rfl, h, fun p u H' np e hp hu => q _ H' e (.tup hp (.cons (.str _) (.cons (.tup hu (dt_ints _)) .nil)))⟩
  | @hedge es h ok =>
    refine k_orR (k_orL (hv _ ?_))
    obtain ⟨dx, t, xs, h1, h2⟩ := id h
    refine ⟨b, dx, _, rfl, h1, by unfold ghe; rw [lookup_putF, if_neg (by decide +kernel)]; rfl, ?_⟩
    exact ⟨b, es, rfl, h, fun v H' e hd => q _ H' e (by
      obtain ⟨u, t', zs, rfl, z1, z2, z3⟩ := hd
      exact .tup z1 (.cons (.str _) (.cons (.tup z2 (dt_ofB (fun _ _ => EdAt.dt) z3)) .nil)))⟩
  | @floor rs w h ok =>
    refine k_orR (k_orR (k_orL (hv _ ?_)))
    obtain ⟨dx, t, h1, h2⟩ := id h
    refine ⟨b, dx, _, rfl, h1, by unfold gfl; rw [lookup_putF, if_neg (by decide +kernel)]; rfl, ?_⟩
    refine ⟨b, rs, rfl, h, fun v H' e hd => q _ H' e ?_⟩
    obtain ⟨u, t', rfl, z1, z2⟩ := hd
    exact .tup z1 (.cons (.str _) (.cons (.tup z2 (dt_strs _)) .nil))
  | @frogs l h ok =>
    refine k_orR (k_orR (k_orR (k_orL (hv _ ?_))))
    obtain ⟨dx, h1⟩ := id h
    refine ⟨b, dx, _, rfl, h1, by unfold gfs; rw [lookup_putF, if_neg (by decide +kernel)]; rfl, ?_⟩
    refine ⟨b, l, rfl, h, fun v H' e hd => q _ H' e ?_⟩
    obtain ⟨u, rfl, z1⟩ := hd
    exact .tup z1 (.cons (.str _) (.cons (.str _) .nil))
  | @cakes cs h =>
    refine k_orR (k_orR (k_orR (k_orR (k_orL (hv _ ?_)))))
    obtain ⟨dx, t, xs, h1, h2⟩ := id h
    refine ⟨b, dx, _, rfl, h1, by unfold cfs; rw [lookup_putF, if_neg (by decide +kernel)]; rfl, ?_⟩
    refine ⟨b, cs, rfl, h, fun v H' e hd => q _ H' e ?_⟩
    obtain ⟨u, t', ys, rfl, z1, z2, z3⟩ := hd
    exact .tup z1 (.cons (.str _) (.cons (.tup z2 (dt_ofB (fun _ _ => CkAt.dt) z3)) .nil))
  | @table xs rs k h r =>
    refine k_orR (k_orR (k_orR (k_orR (k_orR (hv _ ?_)))))
    obtain ⟨dx, t, h1, h2⟩ := id h
    refine ⟨b, dx, _, rfl, h1, tfs_no _ _ (by decide +kernel) (by decide +kernel), ?_⟩
    refine ⟨b, xs, _, rfl, h, fun p u H' np e hp hu => q _ H' e ?_⟩
    exact .tup hp (.cons (.str _) (.cons (.tup hu (dt_ofB (fun _ _ => RoAt.dt) (r.ex e))) (.cons (.int _) .nil)))
/-- the values of some boards -/
theorem lc_vals {K : PySem.W.Frag} {σ : L2.St} {Q : VK} {H1 : Hp} {te : TE} {i : Nat} {wi : It} {ys : List V} {ds : List PyData} (R : BvS K H1 ys ds) (l8 : ys.length ≤ 1000)
    (te_ok : ∀ (b : Addr) (d : PyData) (H : Hp) (Q' : VK), Bv K H b d → (∀ v H', Ex H H' → Dt H' v d → Q' v H') → te ((wipe σ [i]).set i (some (.ref b))) H Q')
    (go : ∀ (St : Nat → List V → Hp → Prop), (∀ n acc H, St n acc H → Ex H1 H) → (∀ D n acc zs H H', H1 D = none → H D = some (.lst zs) → (∀ c o, H c = some o → c ≠ D → H' c = some o) → St n acc H → St n acc H') → (∀ D, H1 D = none → St 0 [] (upd H1 D (.lst []))) →
      (∀ n x acc H D zs, H1 D = none → H D = some (.lst zs) → ys[n]? = some x → acc.length = n → St n acc H → ∀ R : VK, (∀ y H', H' D = some (.lst zs) → St (n + 1) (acc ++ [y]) H' → R y H') → te ((wipe σ [i]).set i (some x)) H R) →
      (∀ D acc H', H1 D = none → acc.length = ys.length → H' D = some (.lst acc) → St ys.length acc H' → Q (.ref D) H') → lcR (gName i) tYes te [i] σ Q wi H1)
    (q : ∀ D zs H', H1 D = none → Ex H1 H' → H' D = some (.lst zs) → DtS H' zs ds → Q (.ref D) H') : lcR (gName i) tYes te [i] σ Q wi H1 := by
  refine go (fun n acc H => Ex H1 H ∧ DtS H acc (ds.take n)) (fun _ _ _ s => s.1) ?_ ?_ ?_ ?_
  · rintro D n acc zs H H' hD hd k ⟨e, r⟩
    exact ⟨fun c o z => k _ _ (e _ _ z) (ne_of_none z hD), r.kl (Kl.set hd k)⟩
  · exact fun D hD => ⟨Evl.Ex.new hD, AllAt.nil⟩
  · rintro n x acc H D zs hD hd hx la ⟨e, r⟩ R' r'
    have nl := (List.getElem?_eq_some_iff.mp hx).1
    have dl : n < ds.length := by rw [← R.1]; exact nl
    obtain ⟨y, hy, b, rfl, hb⟩ := R.2 n _ (List.getElem?_eq_getElem dl)
    rw [hx] at hy; cases hy
    refine te_ok b _ H _ (hb.kl (Kl.of e)) fun v H' e' hv => r' v H' (e' _ _ hd) ⟨e.trans e', ?_⟩
    rw [List.take_add_one, List.getElem?_eq_getElem dl]
    exact AllAt.app (r.kl (Kl.of e')) (AllAt.one hv)
  · rintro D acc H' hD la hd ⟨e, r⟩
    rw [List.take_of_length_le (by rw [R.1]; exact Nat.le_refl _)] at r
    exact q D acc H' hD e hd r
/-- a comprehension over a tuple that changes the heap -/
theorem lcR_stT {te : TE} {σ : L2.St} {Q : VK} {H1 : Hp} {K : PySem.W.Frag} {a : Addr} {xs : List V} {i : Nat} (St : Nat → List V → Hp → Prop) (hS : ∀ n acc H, St n acc H → SqT K H a xs) (len : xs.length < sizeLine)
    (mu : ∀ D n acc ys H H', H1 D = none → H D = some (.lst ys) → (∀ c o, H c = some o → c ≠ D → H' c = some o) → St n acc H → St n acc H') (h0 : ∀ D, H1 D = none → St 0 [] (upd H1 D (.lst [])))
    (hs : ∀ n x acc H D ys, H1 D = none → H D = some (.lst ys) → xs[n]? = some x → acc.length = n → St n acc H → ∀ R : VK, (∀ y H', H' D = some (.lst ys) → St (n + 1) (acc ++ [y]) H' → R y H') → te ((wipe σ [i]).set i (some x)) H R)
    (q : ∀ D acc H', H1 D = none → acc.length = xs.length → H' D = some (.lst acc) → St xs.length acc H' → Q (.ref D) H') (w : ∀ x, wipe ((wipe σ [i]).set i (some x)) [i] = wipe σ [i] := by intro x; rfl) : lcR (gName i) tYes te [i] σ Q (Itt K a) H1 := by
  intro D hD
  refine lc_tup (K := K) (a := a) (xs := xs) (fun n H => ∃ acc : List V, acc.length = n ∧ H D = some (.lst acc) ∧ St n acc H) ⟨[], rfl, upd_same, h0 D hD⟩ (fun n H _ ⟨acc, _, _, s⟩ => hS n acc H s) (fun n x H hx ⟨acc, la, hd, s⟩ => ?_) (fun H ⟨acc, la, hd, s⟩ => q D acc H hD la hd s)
  refine ⟨w x, ?_⟩
  refine hs n x acc H D acc hD hd hx la s _ fun y H4 h4 s4 => ?_
  refine ⟨acc, h4, ?_, acc ++ [y], by rw [List.length_append, la]; rfl, upd_same, mu D _ _ acc H4 _ hD h4 (fun c o z n => (upd_ne n).trans z) s4⟩
  rw [la]
  exact Nat.lt_of_le_of_lt (Nat.le_of_lt (List.getElem?_eq_some_iff.mp hx).1) len
def sp_Meeting_m_value (K : PySem.W.Frag) : Sp := fun vs H Q _ => ∃ (a : Addr) (ys : List V) (ds : List PyData), vs = [.ref a] ∧ MtAt K H a ys ∧ BvS K H ys ds ∧ ys.length ≤ 8 ∧ ∀ p H', H p = none → Ex H H' → (∃ zs, H' p = some (.tup zs) ∧ DtS H' zs ds) → Q (.ref p) H'
local macro_rules | `(tactic| walk_at "mlk") => `(tactic| exact mfs_get _)
local macro_rules | `(tactic| walk_at "new") => `(tactic| ((first | refine ⟨fits (Nat.le_of_ble_eq_true rfl), ?_⟩ | skip); intro p np; generalize hq : upd _ p _ = H1; have e1 := nx np hq; have s1 := nS hq; clear hq))
abbrev N_Meeting_m_value : List Str := ["self", "board"]
def t_Meeting_m_value (K : PySem.W.Frag) (E : XK) : TS := (tRet (tCB (rTupL K) (tCons (tLc (iTup K (tFld K (tVar 0) "_boards")) (gName 1) tYes (tOrE (tMeth (He.ga K "Heaps") "value" (sp_Heaps_m_value K) [] E0 (tVar 1) tNil) (tOrE (tMeth (He.ga K "Hedge") "value" (sp_Hedge_m_value K) [] E0 (tVar 1) tNil) (tOrE (tMeth (He.ga K "Floor") "value" (sp_Floor_m_value K) [] E0 (tVar 1) tNil) (tOrE (tMeth (He.ga K "Frogs") "value" (sp_Frogs_m_value K) [] E0 (tVar 1) tNil) (tOrE (tMeth (He.ga K "Cakes") "value" (sp_Cakes_m_value K) [] E0 (tVar 1) tNil) (tMeth (He.ga K "Table") "value" (sp_Table_m_value K) [] E0 (tVar 1) tNil)))))) [1]) tNil)))
theorem len_Meeting_m_value {K : PySem.W.Frag} {vs : List V} {H : Hp} {Q : VK} {E : XK} (h : sp_Meeting_m_value K vs H Q E) : vs.length = 1 := by
  obtain ⟨_, _, _, rfl, _⟩ := h; rfl
theorem pure_Meeting_m_value {K : PySem.W.Frag} (F : FMeeting K) (vs : List V) (H : Hp) (Q : VK) (E : XK) (h : sp_Meeting_m_value K vs H Q E) : t_Meeting_m_value K E { nx := fun _ H' => Q .non H', rt := Q } (start N_Meeting_m_value vs) H := by
  obtain ⟨a, ys, ds, rfl, ⟨dx, t, h1, h2⟩, R, l8, q⟩ := h
  obtain ⟨cl, na⟩ := F
  unfold t_Meeting_m_value
  repeat walk_at "mst"
  refine ⟨t, rfl, ⟨_, k_st h2⟩, lc_vals R (by omega) (fun b d H' Q' hb r => use_bval (fun _ z => ⟨_, rfl, z⟩) hb r) (fun St hS mu h0 hs q => lcR_stT St (fun n acc H' s => k_st ((hS n acc H' s) _ _ h2)) (Nat.lt_of_le_of_lt (show _ ≤ 100 by omega) (by decide)) mu h0 hs q) fun D zs H1 nD e1 hD hz => ?_⟩
  repeat walk_at "mst"
  walk_at "new"; rename_i u nu H2 e2 s2
  exact q u H2 (Evl.fresh_back e1 nu) (e1.trans e2) ⟨zs, s2, hz.kl (Kl.of e2)⟩
theorem use_mvalue {K : PySem.W.Frag} {H : Hp} {Q : VK} {E : XK} {a : Addr} {ys : List V} {ds : List PyData} (M : MtAt K H a ys) (R : BvS K H ys ds) (l8 : ys.length ≤ 8) (q : ∀ p H', H p = none → Ex H H' → (∃ zs, H' p = some (.tup zs) ∧ DtS H' zs ds) → Q (.ref p) H') : sp_Meeting_m_value K (.ref a :: ([] ++ [])) H Q E := ⟨a, ys, ds, rfl, M, R, l8, q⟩
def sdF (fi : Nat) : Str := if fi = 0 then "left" else "right"
theorem sdF_tur {fi : Nat} (h : fi < 2) (n : Nat) : turS (sdF fi) n = sdF ((fi + n) % 2) := by
  have : fi = 0 ∨ fi = 1 := by omega
  unfold turS othS
  rcases this with rfl | rfl
  · by_cases e : n % 2 = 0
    · rw [if_pos e, show (0 + n) % 2 = 0 by omega]
    · rw [if_neg e, show (0 + n) % 2 = 1 by omega]; decide +kernel
  · by_cases e : n % 2 = 0
    · rw [if_pos e, show (1 + n) % 2 = 1 by omega]
    · rw [if_neg e, show (1 + n) % 2 = 0 by omega]; decide +kernel
theorem sdF_at {k : Nat} (h : k < 2) : [V.str "left", V.str "right"][k]? = some (V.str (sdF k)) := by
  have : k = 0 ∨ k = 1 := by omega
  rcases this with rfl | rfl <;> rfl
theorem sdF_other {k : Nat} (h : k < 2) : [V.str "right", V.str "left"][k]? = some (V.str (othS (sdF k))) := by
  have : k = 0 ∨ k = 1 := by omega
  rcases this with rfl | rfl
  · rfl
  · show some (V.str "left") = some (V.str (othS "right"))
    rw [show othS "right" = "left" by decide +kernel]
/-- a law's model of a match -/
structure MoS (K : PySem.W.Frag) (d : Addr) (fi : Nat) (lm li : Addr) (GS : List (List BSt)) (ns : List Int) (H : Hp) : Prop where
  hd : ∃ kvs, H d = some (.dK kvs) ∧ valV kvs (Sum.inr "first") = some (.int (fi : Int)) ∧ valV kvs (Sum.inr "meetings") = some (.ref lm) ∧ valV kvs (Sum.inr "record") = some (.ref li)
  hm : ∃ ms, H lm = some (.lst ms) ∧ AllAt (MtS K) H ms GS
  hi : H li = some (.lst (ns.map V.int))
  f2 : fi < 2
  ne : lm ≠ li
section
variable {K : PySem.W.Frag} {d : Addr} {fi : Nat} {lm li : Addr} {GS : List (List BSt)} {ns : List Int} {H H' : Hp}
theorem MoS.kl (h : MoS K d fi lm li GS ns H) (k : Kl H H') (k1 : ∀ o, H lm = some o → H' lm = some o) (k2 : ∀ o, H li = some o → H' li = some o) : MoS K d fi lm li GS ns H' :=
  ⟨let ⟨kvs, z, a, b, c⟩ := h.hd; ⟨kvs, k _ _ z (fun ys z => by cases z), a, b, c⟩, let ⟨ms, z, r⟩ := h.hm; ⟨ms, k1 _ z, r.imp fun y c q => q.kl k⟩, k2 _ h.hi, h.f2, h.ne⟩
theorem MoS.ex (h : MoS K d fi lm li GS ns H) (e : Ex H H') : MoS K d fi lm li GS ns H' := h.kl (Kl.of e) (fun o z => e _ _ z) fun o z => e _ _ z
theorem MoS.first (h : MoS K d fi lm li GS ns H) : DGet H d (.str "first") (some (.int (fi : Int))) := by
  obtain ⟨kvs, z, a, _⟩ := h.hd
  rw [← a]; exact DGet.k (k := Sum.inr "first") z
theorem MoS.meets (h : MoS K d fi lm li GS ns H) : DGet H d (.str "meetings") (some (.ref lm)) := by
  obtain ⟨kvs, z, _, a, _⟩ := h.hd
  rw [← a]; exact DGet.k (k := Sum.inr "meetings") z
theorem MoS.recs (h : MoS K d fi lm li GS ns H) : DGet H d (.str "record") (some (.ref li)) := by
  obtain ⟨kvs, z, _, _, a⟩ := h.hd
  rw [← a]; exact DGet.k (k := Sum.inr "record") z
end
theorem sdF_or {k : Nat} : sdF k = "left" ∨ sdF k = "right" := by
  unfold sdF
  split
  · exact Or.inl rfl
  · exact Or.inr rfl
theorem te_due {K : PySem.W.Frag} {σ : L2.St} {i j : Nat} {x : V} {b : Addr} {d : PyData} {H : Hp} {Q' : VK} (h1 : σ[i]? = some (some x)) (h2 : σ[j]? = some (some (.ref b))) (hb : Bv K H b d) (r : ∀ u v H', Ex H H' → H' u = some (.tup [x, v]) → Dt H' v d → Q' (.ref u) H') :
    tTup (tCons (tVar i) (tCons (tOrE (tMeth (He.ga K "Heaps") "value" (sp_Heaps_m_value K) [] E0 (tVar j) tNil) (tOrE (tMeth (He.ga K "Hedge") "value" (sp_Hedge_m_value K) [] E0 (tVar j) tNil) (tOrE (tMeth (He.ga K "Floor") "value" (sp_Floor_m_value K) [] E0 (tVar j) tNil) (tOrE (tMeth (He.ga K "Frogs") "value" (sp_Frogs_m_value K) [] E0 (tVar j) tNil) (tOrE (tMeth (He.ga K "Cakes") "value" (sp_Cakes_m_value K) [] E0 (tVar j) tNil) (tMeth (He.ga K "Table") "value" (sp_Table_m_value K) [] E0 (tVar j) tNil)))))) tNil)) σ H Q' := by
  refine ⟨x, h1, ?_⟩
  refine use_bval (fun _ z => ⟨_, h2, z⟩) hb fun v H1 e hv => ?_
  exact ⟨by show 2 ≤ sizeLine; decide, fun u nu => r u v _ (e.trans (Evl.Ex.new nu)) upd_same (hv.kl (Kl.of (Evl.Ex.new nu)))⟩
def sp_law_is (K : PySem.W.Frag) : Sp := fun vs H Q _ => ∃ (a dx : Addr) (lm li : Addr) (d lm2 li2 : Addr) (fi : Nat) (GS : List (List BSt)) (ns : List Int), vs = [.ref a, .ref d] ∧ MaS K a dx (sdF fi) lm li GS ns H ∧ MoS K d fi lm2 li2 GS ns H ∧ ∀ H', Ex H H' → Q (.bl true) H'
local macro_rules | `(tactic| walk_at "new") => `(tactic| ((first | refine ⟨fits (Nat.le_of_ble_eq_true rfl), ?_⟩ | skip); intro p np; generalize hq : upd _ p _ = H1; have e1 := nx np hq; have s1 := nS hq; clear hq))
abbrev N_law_is : List Str := ["match", "model", "side", "meeting", "due", "place", "board", "turn", "told", "record", "winner"]
def t_law_is (K : PySem.W.Frag) (E : XK) : TS := (tSeq (tAsg (tOp rModI (tOp rAddI (tDGet (tVar 1) (tC (.str "first"))) (tCB (rLenQ K) (tCons (tDGet (tVar 1) (tC (.str "record"))) tNil))) (tC (.int 2))) (gName 2)) (tSeq (tAsg (tOp (rIxL K) (tDGet (tVar 1) (tC (.str "meetings"))) (tUn rNegI (tC (.int 1)))) (gName 3)) (tSeq (tIfS (tOr (tTest (tOp rNe (tProp (He.ga K "Match") (sp_Match_m_turn K) [] E0 (tVar 0)) (tOp (rIxL K) (tLst (tCons (tC (.str "left")) (tCons (tC (.str "right")) tNil))) (tVar 2)))) (tTest (tOp (rNeD K) (tMeth (He.ga K "Meeting") "value" (sp_Meeting_m_value K) [] E0 (tProp (He.ga K "Match") (sp_Match_m_meeting K) [] E0 (tVar 0)) tNil) (tMeth (He.ga K "Meeting") "value" (sp_Meeting_m_value K) [] E0 (tVar 3) tNil)))) (tRet (tC (.bl false))) tNext) (tSeq (tAsg (tLc (iList K (tMeth (He.ga K "Meeting") "moves" (sp_Meeting_m_moves K) [] E0 (tVar 3) (tCons (tProp (He.ga K "Match") (sp_Match_m_turn K) [] E0 (tVar 0)) tNil))) (gTup K 2 (gCons (gName 5) (gCons (gName 6) gNil))) tYes (tTup (tCons (tVar 5) (tCons (tOrE (tMeth (He.ga K "Heaps") "value" (sp_Heaps_m_value K) [] E0 (tVar 6) tNil) (tOrE (tMeth (He.ga K "Hedge") "value" (sp_Hedge_m_value K) [] E0 (tVar 6) tNil) (tOrE (tMeth (He.ga K "Floor") "value" (sp_Floor_m_value K) [] E0 (tVar 6) tNil) (tOrE (tMeth (He.ga K "Frogs") "value" (sp_Frogs_m_value K) [] E0 (tVar 6) tNil) (tOrE (tMeth (He.ga K "Cakes") "value" (sp_Cakes_m_value K) [] E0 (tVar 6) tNil) (tMeth (He.ga K "Table") "value" (sp_Table_m_value K) [] E0 (tVar 6) tNil)))))) tNil))) [5, 6]) (gName 4)) (tSeq (tFor (iRng1 (tCons (tC (.int 2)) tNil)) (gName 7) (tSeq (tAsg (tMeth (He.ga K "Match") "moves" (sp_Match_m_moves K) [] E0 (tVar 0) tNil) (gName 8)) (tSeq (tIfS (tOr (tNot (tB (tCB (rIsi K) (tCons (tVar 8) (tCons (tC (.ty "list")) tNil))))) (tTest (tOp (rNeD K) (tLc (iList K (tVar 8)) (gTup K 2 (gCons (gName 5) (gCons (gName 6) gNil))) tYes (tTup (tCons (tVar 5) (tCons (tOrE (tMeth (He.ga K "Heaps") "value" (sp_Heaps_m_value K) [] E0 (tVar 6) tNil) (tOrE (tMeth (He.ga K "Hedge") "value" (sp_Hedge_m_value K) [] E0 (tVar 6) tNil) (tOrE (tMeth (He.ga K "Floor") "value" (sp_Floor_m_value K) [] E0 (tVar 6) tNil) (tOrE (tMeth (He.ga K "Frogs") "value" (sp_Frogs_m_value K) [] E0 (tVar 6) tNil) (tOrE (tMeth (He.ga K "Cakes") "value" (sp_Cakes_m_value K) [] E0 (tVar 6) tNil) (tMeth (He.ga K "Table") "value" (sp_Table_m_value K) [] E0 (tVar 6) tNil)))))) tNil))) [5, 6]) (tVar 4)))) (tRet (tC (.bl false))) tNext) (tSeq (tDrop (tBM K "list" rAppend (tVar 8) (tCons (tC (.int 0)) tNil))) (tSeq (tAsg (tMeth (He.ga K "Match") "record" (sp_Match_m_record K) [] E0 (tVar 0) tNil) (gName 9)) (tSeq (tIfS (tOr (tNot (tB (tCB (rIsi K) (tCons (tVar 9) (tCons (tC (.ty "list")) tNil))))) (tTest (tOp (rNeD K) (tVar 9) (tDGet (tVar 1) (tC (.str "record")))))) (tRet (tC (.bl false))) tNext) (tDrop (tBM K "list" rAppend (tVar 9) (tCons (tC (.int 0)) tNil))))))))) (tSeq (tAsg (tC .non) (gName 10)) (Evl.tCut (tIfS (tTest (tOp (rEqN K) (tVar 4) (tLst tNil))) (tAsg (tOp (rIxL K) (tLst (tCons (tC (.str "right")) (tCons (tC (.str "left")) tNil))) (tVar 2)) (gName 10)) tNext) (tRet (tOp rEq (tMeth (He.ga K "Match") "winner" (sp_Match_m_winner K) [] E0 (tVar 0) tNil) (tVar 10))))))))))
theorem len_law_is {K : PySem.W.Frag} {vs : List V} {H : Hp} {Q : VK} {E : XK} (h : sp_law_is K vs H Q E) : vs.length = 2 := by
  obtain ⟨_, _, _, _, _, _, _, _, _, _, rfl, _⟩ := h; rfl
theorem pure_law_is {K : PySem.W.Frag} (vs : List V) (H : Hp) (Q : VK) (E : XK) (h : sp_law_is K vs H Q E) : t_law_is K E { nx := fun _ H' => Q .non H', rt := Q } (start N_law_is vs) H := by
  obtain ⟨a, dx, lm, li, d, lm2, li2, fi, GS, ns, rfl, M, O, q⟩ := h
  have f2 := O.f2
  have len := M.len
  obtain ⟨gs, hg⟩ : ∃ gs, GS[ns.length]? = some gs := ⟨_, List.getElem?_eq_getElem (by omega)⟩
  have hoi := O.hi
  obtain ⟨ms2, hm2, R2⟩ := O.hm
  obtain ⟨y2, hy2, mt2, ys2, rfl, Mt2, Rb2, l82⟩ := R2.2 _ gs hg
  have hins := M.ins
  unfold t_law_is
  repeat walk_at "mst"
  refine ⟨d, _, rfl, O.first, ?_⟩
  repeat walk_at "mst"
  refine ⟨d, _, rfl, O.recs, ?_⟩
  repeat walk_at "mst"
  obtain ⟨k, hk⟩ : ∃ k, k = (fi + ns.length) % 2 := ⟨_, rfl⟩
  have k2 : k < 2 := by omega
  have et : turS (sdF fi) ns.length = sdF k := by rw [hk]; exact sdF_tur f2 ns.length
  rw [show ((fi : Int) + ((ns.map V.int).length : Int)) % 2 = (k : Int) by rw [List.length_map]; omega]
  refine ⟨d, _, rfl, O.meets, ?_⟩
  repeat walk_at "mst"
  refine k_ixL (k_sq hm2) (last_at (n := ns.length) (by rw [R2.1]; exact len) hy2) ?_
  repeat walk_at "mst"
  refine ⟨a, dx, _, rfl, hins, ?_⟩
  refine use_turn M ?_
  rw [et]
  repeat walk_at "mst"
  walk_at "new"; rename_i l1 nl1 H1 e1 s1
  repeat walk_at "mst"
  refine k_ixL (k_sq s1) (atI_nat (sdF_at k2)) ?_
  refine ⟨rfl, ?_⟩
  rw [decide_eq_true rfl]
  have M1 := M.ex e1
  repeat walk_at "mst"
  refine ⟨a, dx, _, rfl, M1.ins, ?_⟩
  refine use_meeting M1 fun y gs' hg' my => ?_
  rw [hg] at hg'; cases hg'
  obtain ⟨mt, ys, rfl, Mt, Rb, l8⟩ := my
  obtain ⟨dx3, t3, hi3, ht3⟩ := id Mt
  repeat walk_at "mst"
  refine ⟨mt, dx3, _, rfl, hi3, mfs_no t3 (by decide +kernel), ?_⟩
  repeat walk_at "mst"
  refine use_mvalue Mt Rb.bv l8 fun u1 H2 nu1 e2 ⟨z1, hz1, rz1⟩ => ?_
  have e02 := e1.trans e2
  have Mt2' := Mt2.kl (Kl.of e02)
  obtain ⟨dx4, t4, hi4, ht4⟩ := id Mt2'
  repeat walk_at "mst"
  refine ⟨mt2, dx4, _, rfl, hi4, mfs_no t4 (by decide +kernel), ?_⟩
  repeat walk_at "mst"
  refine use_mvalue Mt2' (Rb2.kl (Kl.of e02)).bv l82 fun u2 H3 nu2 e3 ⟨z2, hz2, rz2⟩ => ?_
  have e03 := e02.trans e3
  have ldv := (lays_tup (n := 4) (ds := gs.map vlB) (fun d md => by
    obtain ⟨i, hi'⟩ := List.mem_iff_getElem?.mp md
    obtain ⟨y, _, b, _, hb⟩ := Rb.bv.2 i d hi'
    exact hb.lays)).up (show 5 ≤ 64 by decide)
  repeat walk_at "mst"
  refine k_neT (.tup (e3 _ _ hz1) (rz1.kl (Kl.of e3)).all) (.tup hz2 rz2.all) ldv ldv ?_
  rw [ldv.refl]
  have M3 := M.ex e03
  repeat walk_at "mst"
  refine ⟨mt2, dx4, _, rfl, e3 _ _ hi4, mfs_no t4 (by decide +kernel), ?_⟩
  repeat walk_at "mst"
  refine ⟨a, dx, _, rfl, M3.ins, ?_⟩
  refine use_turn M3 ?_
  rw [et]
  repeat walk_at "mst"
  refine use_mmoves sdF_or (Mt2.kl (Kl.of e03)) (Rb2.kl (Kl.of e03)) l82 fun p zs H4 np e4 hp T tl => ?_
  have ldd := PsAt.lays T
  refine ⟨p, rfl, ⟨_, k_sq hp⟩, lc_due hp T (by omega) (fun x b d H Q' hb r => te_due rfl rfl hb r) fun D acc H5 nD e5 hD rD => ?_⟩
  have e05 := (e03.trans e4).trans e5
  have accl := rD.1
  rw [List.length_map] at accl
  repeat walk_at "mst"
  refine ⟨2, rfl, by decide, by decide, ?_⟩
  refine forK_range (n := 2) (fun j σ H' => ∃ x7 x8 x9 : Option V, Ex H5 H' ∧ σ = [some (.ref a), some (.ref d), some (.int (k : Int)), some (.ref mt2), some (.ref D), none, none, x7, x8, x9, none]) ⟨_, _, _, Evl.Ex.refl _, rfl⟩ ?_ ?_
  · rintro j σ H6 hj ⟨x7, x8, x9, e6, rfl⟩
    have e06 := e05.trans e6
    have M6 := M.ex e06
    repeat walk_at "mst"
    refine ⟨a, dx, _, rfl, M6.ins, mafs_no _ _ _ (by decide +kernel) (by decide +kernel) (by decide +kernel), ?_⟩
    repeat walk_at "mst"
    refine use_mamoves M6 hg fun p7 zs7 H7 np7 e7 hp7 T7 tl7 => ?_
    rw [et] at T7
    have hD7 := e7 _ _ (e6 _ _ hD)
    repeat walk_at "mst"
    refine k_isi (cls_ty "list") (.base (.lst hp7)) (kit_ty (b := "list") (r := true) (by decide +kernel)) ?_
    repeat walk_at "mst"
    refine ⟨p7, rfl, ⟨_, k_sq hp7⟩, lc_due hp7 T7 (by omega) (fun x b d H Q' hb r => te_due rfl rfl hb r) fun D8 acc8 H8 nD8 e8 hD8 rD8 => ?_⟩
    repeat walk_at "mst"
    refine k_neL hD8 rD8 (e8 _ _ hD7) ((rD.kl (Kl.of (e6.trans (e7.trans e8))))) ldd ?_
    have hp8 := e8 _ _ hp7
    repeat walk_at "mst"
    · exact Nat.lt_of_le_of_lt (show _ ≤ 16000 by omega) (by decide)
    have np6 : H6 p7 = none := np7
    have e69 : Ex H6 (upd H8 p7 (HO.lst (zs7 ++ [V.int 0]))) := Evl.Ex.mut (e7.trans e8) np7
    generalize upd H8 p7 (HO.lst (zs7 ++ [V.int 0])) = H9 at *
    have e09 := e06.trans e69
    have M9 := M.ex e09
    repeat walk_at "mst"
    refine ⟨a, dx, _, rfl, M9.ins, mafs_no _ _ _ (by decide +kernel) (by decide +kernel) (by decide +kernel), ?_⟩
    repeat walk_at "mst"
    refine use_record M9 fun rp HA nrp eA hrp => ?_
    have e0A := e09.trans eA
    have OA := O.ex e0A
    repeat walk_at "mst"
    refine k_isi (cls_ty "list") (.base (.lst hrp)) (kit_ty (b := "list") (r := true) (by decide +kernel)) ?_
    repeat walk_at "mst"
    refine ⟨d, _, rfl, OA.recs, ?_⟩
    refine k_neIL hrp OA.hi ?_
    repeat walk_at "mst"
    · rw [List.length_map]; exact Nat.lt_of_le_of_lt (show _ ≤ 1000 from M.few) (by decide)
    have e6B : Ex H6 (upd HA rp (HO.lst (ns.map V.int ++ [V.int 0]))) := fun c o z => (upd_ne (ne_of_none (e69 _ _ z) nrp)).trans (eA _ _ (e69 _ _ z))
    exact ⟨_, _, _, e6.trans e6B, rfl⟩
  · rintro σ H6 ⟨x7, x8, x9, e6, rfl⟩
    have e06 := e05.trans e6
    have hD6 := e6 _ _ hD
    repeat walk_at "mst"
    refine k_cut (fun σ' H' => Ex H6 H' ∧ σ' = [some (.ref a), some (.ref d), some (.int (k : Int)), some (.ref mt2), some (.ref D), none, none, x7, x8, x9, some (if acc.length = 0 then .str (othS (sdF k)) else .non)]) ?_ ?_
    · repeat walk_at "mst"
      walk_at "new"; rename_i l7 nl7 H7 e7 s7
      repeat walk_at "mst"
      refine ⟨D, l7, acc, rfl, rfl, e7 _ _ hD6, s7, ?_⟩
      repeat walk_at "mst"
      refine k_iteD (fun z => ?_) (fun z => ?_)
      · repeat walk_at "mst"
        walk_at "new"; rename_i l8_ nl8 H8 e8 s8
        repeat walk_at "mst"
        refine k_ixL (k_sq s8) (atI_nat (sdF_other k2)) ?_
        rw [if_pos z]
        exact ⟨e7.trans e8, rfl⟩
      · repeat walk_at "mst"
        rw [if_neg z]
        exact ⟨e7, rfl⟩
    · rintro σ' H7 ⟨e7, rfl⟩
      have M7 := M.ex (e06.trans e7)
      repeat walk_at "mst"
      refine ⟨a, dx, _, rfl, M7.ins, mafs_no _ _ _ (by decide +kernel) (by decide +kernel) (by decide +kernel), ?_⟩
      repeat walk_at "mst"
      refine use_winner M7 hg fun H8 e8 => ?_
      rw [et, ← accl]
      repeat walk_at "mst"
      by_cases z : acc.length = 0
      · rw [if_pos z]
        refine ⟨rfl, ?_⟩
        rw [decide_eq_true rfl]
        exact q _ ((e06.trans e7).trans e8)
      · rw [if_neg z]
        refine ⟨rfl, ?_⟩
        rw [decide_eq_true rfl]
        exact q _ ((e06.trans e7).trans e8)
theorem use_is73 {K : PySem.W.Frag} {H : Hp} {Q : VK} {E : XK} {a dx lm li d lm2 li2 : Addr} {fi : Nat} {GS : List (List BSt)} {ns : List Int} (M : MaS K a dx (sdF fi) lm li GS ns H) (O : MoS K d fi lm2 li2 GS ns H) (q : ∀ H', Ex H H' → Q (.bl true) H') : sp_law_is K ([.ref a, .ref d] ++ []) H Q E := ⟨a, dx, lm, li, d, lm2, li2, fi, GS, ns, rfl, M, O, q⟩
theorem Kl.two {H H' : Hp} {p q : Addr} {xs ys : List V} (hp : H p = some (.lst xs)) (hq : H q = some (.lst ys)) (k : ∀ c o, H c = some o → c ≠ p → c ≠ q → H' c = some o) : Kl H H' :=
  fun c o z n => k c o z (fun e => n xs (by rw [e, hp] at z; exact (Option.some.inj z).symm)) fun e => n ys (by rw [e, hq] at z; exact (Option.some.inj z).symm)
theorem tape_klD {H H' : Hp} {t : Addr} (h : TapeAt H t) (k : Tk t H H') : Kl H H' := let ⟨_, _, _, z⟩ := h; Kl.set z k
/-- a match, its model, the tape -/
structure De (K : PySem.W.Frag) (a dx lm li d lm2 li2 t : Addr) (fi : Nat) (GS : List (List BSt)) (ns : List Int) (H : Hp) : Prop where
  M : MaS K a dx (sdF fi) lm li GS ns H
  O : MoS K d fi lm2 li2 GS ns H
  tp : TapeAt H t
  t1 : lm ≠ t ∧ li ≠ t ∧ lm2 ≠ t ∧ li2 ≠ t
  n1 : lm ≠ lm2 ∧ lm ≠ li2 ∧ li ≠ lm2 ∧ li ≠ li2
section
variable {K : PySem.W.Frag} {a dx lm li d lm2 li2 t : Addr} {fi : Nat} {GS : List (List BSt)} {ns : List Int} {H H' : Hp}
theorem De.ex (c : De K a dx lm li d lm2 li2 t fi GS ns H) (e : Ex H H') : De K a dx lm li d lm2 li2 t fi GS ns H' := ⟨c.M.ex e, c.O.ex e, c.tp.ex e, c.t1, c.n1⟩
theorem De.draw (c : De K a dx lm li d lm2 li2 t fi GS ns H) (k : Tk t H H') (tp : TapeAt H' t) : De K a dx lm li d lm2 li2 t fi GS ns H' :=
  have kl := tape_klD c.tp k
  ⟨c.M.kl kl (fun o z => k _ _ z c.t1.1) (fun o z => k _ _ z c.t1.2.1), c.O.kl kl (fun o z => k _ _ z c.t1.2.2.1) (fun o z => k _ _ z c.t1.2.2.2), tp, c.t1, c.n1⟩
end
def sp_law_deed (K : PySem.W.Frag) : Sp := fun vs H Q _ => ∃ (a dx lm li d lm2 li2 t : Addr) (fi : Nat) (GS : List (List BSt)) (ns : List Int), vs = [.ref a, .ref d, .ref t] ∧ De K a dx lm li d lm2 li2 t fi GS ns H ∧ ns.length ≤ 200 ∧
  ∀ H' GS' ns', (∀ c o, H c = some o → c ≠ lm → c ≠ li → c ≠ lm2 → c ≠ li2 → c ≠ t → H' c = some o) → MaS K a dx (sdF fi) lm li GS' ns' H' → MoS K d fi lm2 li2 GS' ns' H' → ns'.length ≤ ns.length + 1 → Q (.bl true) H'
local macro_rules | `(tactic| walk_at "new") => `(tactic| ((first | refine ⟨fits (Nat.le_of_ble_eq_true rfl), ?_⟩ | skip); intro p np; generalize hq : upd _ p _ = H1; have e1 := nx np hq; have s1 := nS hq; clear hq))
abbrev N_law_deed : List Str := ["match", "model", "tape", "side", "meeting", "moves", "kind", "index", "boards"]
def t_law_deed (K : PySem.W.Frag) (E : XK) : TS := (tSeq (tAsg (tOp (rIxL K) (tLst (tCons (tC (.str "left")) (tCons (tC (.str "right")) tNil))) (tOp rModI (tOp rAddI (tDGet (tVar 1) (tC (.str "first"))) (tCB (rLenQ K) (tCons (tDGet (tVar 1) (tC (.str "record"))) tNil))) (tC (.int 2)))) (gName 3)) (tSeq (tAsg (tOp (rIxL K) (tDGet (tVar 1) (tC (.str "meetings"))) (tUn rNegI (tC (.int 1)))) (gName 4)) (tSeq (tAsg (tMeth (He.ga K "Meeting") "moves" (sp_Meeting_m_moves K) [] E0 (tVar 4) (tCons (tVar 3) tNil)) (gName 5)) (tSeq (tAsg (tCall (sp_law_draw K) [] E0 (tCons (tVar 2) (tCons (tC (.int 8)) tNil))) (gName 6)) (tSeq (tIfS (tTest (tOp rEq (tVar 6) (tC (.int 0)))) (tRet (tCall (sp_law_no_move K) [] E0 (tCons (tVar 0) (tCons (tOp (rIxL K) (tLst (tCons (tOp rAddI (tCB (rLenQ K) (tCons (tVar 5) tNil)) (tCall (sp_law_draw K) [] E0 (tCons (tVar 2) (tCons (tC (.int 3)) tNil)))) (tCons (tOp rSubI (tUn rNegI (tC (.int 1))) (tCall (sp_law_draw K) [] E0 (tCons (tVar 2) (tCons (tOp rPowI (tC (.int 10)) (tC (.int 6))) tNil)))) tNil))) (tCall (sp_law_draw K) [] E0 (tCons (tVar 2) (tCons (tC (.int 2)) tNil)))) tNil)))) tNext) (tSeq (tIfS (tAnd (tTest (tOp rLtI (tVar 6) (tC (.int 3)))) (tTest (tOp (rEqN K) (tDGet (tVar 1) (tC (.str "record"))) (tLst tNil)))) (tRet (tCall (sp_law_no_move K) [] E0 (tCons (tVar 0) (tCons (tC .non) tNil)))) tNext) (tSeq (tIfS (tTest (tOp rLtI (tVar 6) (tC (.int 3)))) (tSeq (tDrop (tBM0 K "list" rPop (tDGet (tVar 1) (tC (.str "record"))))) (tSeq (tDrop (tBM0 K "list" rPop (tDGet (tVar 1) (tC (.str "meetings"))))) (tRet (tOp rIsN (tMeth (He.ga K "Match") "back" (sp_Match_m_back K) [] E0 (tVar 0) tNil) (tC .non))))) tNext) (tSeq (tIfS (tTest (tOp (rEqN K) (tVar 5) (tLst tNil))) (tRet (tCall (sp_law_no_move K) [] E0 (tCons (tVar 0) (tCons (tC (.int 0)) tNil)))) tNext) (tSeq (tAsg (tCall (sp_law_draw K) [] E0 (tCons (tVar 2) (tCons (tCB (rLenQ K) (tCons (tVar 5) tNil)) tNil))) (gName 7)) (tSeq (tAsg (tMeth (He.ga K "Meeting") "boards" (sp_Meeting_m_boards K) [] E0 (tVar 4) tNil) (gName 8)) (tSeq (tAsg (tOp (rIxT K) (tOp (rIxL K) (tVar 5) (tVar 7)) (tC (.int 1))) (gSub (tVar 8) (tOp (rIxT K) (tOp (rIxL K) (tVar 5) (tVar 7)) (tC (.int 0))) L2.rSetL)) (tSeq (tDrop (tBM K "list" rAppend (tDGet (tVar 1) (tC (.str "meetings"))) (tCons (tMake (He.ga K "Meeting") (sp_Meeting_d_init K) [] E0 (tCons (tVar 8) tNil)) tNil))) (tSeq (tDrop (tBM K "list" rAppend (tDGet (tVar 1) (tC (.str "record"))) (tCons (tVar 7) tNil))) (tRet (tOp rIsN (tMeth (He.ga K "Match") "play" (sp_Match_m_play K) [] E0 (tVar 0) (tCons (tVar 7) tNil)) (tC .non))))))))))))))))
theorem len_law_deed {K : PySem.W.Frag} {vs : List V} {H : Hp} {Q : VK} {E : XK} (h : sp_law_deed K vs H Q E) : vs.length = 3 := by
  obtain ⟨_, _, _, _, _, _, _, _, _, _, _, rfl, _⟩ := h; rfl
theorem pure_law_deed {K : PySem.W.Frag} (vs : List V) (H : Hp) (Q : VK) (E : XK) (h : sp_law_deed K vs H Q E) : t_law_deed K E { nx := fun _ H' => Q .non H', rt := Q } (start N_law_deed vs) H := by
  obtain ⟨a, dx, lm, li, d, lm2, li2, t, fi, GS, ns, rfl, C, few, q⟩ := h
  have f2 := C.O.f2
  have len := C.M.len
  obtain ⟨gs, hg⟩ : ∃ gs, GS[ns.length]? = some gs := ⟨_, List.getElem?_eq_getElem (by omega)⟩
  obtain ⟨k, hk⟩ : ∃ k, k = (fi + ns.length) % 2 := ⟨_, rfl⟩
  have k2 : k < 2 := by omega
  have et : turS (sdF fi) ns.length = sdF k := by rw [hk]; exact sdF_tur f2 ns.length
  unfold t_law_deed
  repeat walk_at "mst"
  walk_at "new"; rename_i l1 nl1 H1 e1 s1
  have C1 := C.ex e1
  have hoi := C1.O.hi
  repeat walk_at "mst"
  refine ⟨d, _, rfl, C1.O.first, ?_⟩
  repeat walk_at "mst"
  refine ⟨d, _, rfl, C1.O.recs, ?_⟩
  repeat walk_at "mst"
  rw [show ((fi : Int) + ((ns.map V.int).length : Int)) % 2 = (k : Int) by rw [List.length_map]; omega]
  refine k_ixL (k_sq s1) (atI_nat (sdF_at k2)) ?_
  repeat walk_at "mst"
  refine ⟨d, _, rfl, C1.O.meets, ?_⟩
  obtain ⟨ms2, hm2, R2⟩ := C1.O.hm
  obtain ⟨y2, hy2, mt2, ys2, rfl, Mt2, Rb2, l82⟩ := R2.2 _ gs hg
  repeat walk_at "mst"
  refine k_ixL (k_sq hm2) (last_at (n := ns.length) (by rw [R2.1]; exact len) hy2) ?_
  obtain ⟨dx4, t4, hi4, ht4⟩ := id Mt2
  repeat walk_at "mst"
  refine ⟨mt2, dx4, _, rfl, hi4, mfs_no t4 (by decide +kernel), ?_⟩
  repeat walk_at "mst"
  refine use_mmoves sdF_or Mt2 Rb2 l82 fun p zs H2 np e2 hp T tl => ?_
  have zl := T.1
  have C2 := C1.ex e2
  have e02 := e1.trans e2
  have npt : p ≠ t := (C1.tp.ne np).symm
  repeat walk_at "mst"
  refine use_draw (n := 8) C2.tp (by decide) (by decide) fun kind H3 kd0 kd1 k3 tp3 => ?_
  have C3 := C2.draw k3 tp3
  have hp3 := k3 _ _ hp npt
  have k03 : Tk t H H3 := (Tk.of e02).trans k3
  have kl23 := tape_klD C2.tp k3
  have T3 : AllAt (PsAt K) H3 zs (mvQ (sdF k) gs) := T.imp fun y c q => q.kl kl23
  have M23 := (Mt2.kl (Kl.of e2)).kl kl23
  have Rb3 := (Rb2.kl (Kl.of e2)).kl kl23
  have few1 : ns.length < 1000 := by omega
  have stay : ∀ H', Tk t H3 H' → TapeAt H' t → Q (.bl true) H' := fun H' kk tp => by
    have C4 := C3.draw kk tp
    exact q H' GS ns (fun c o z n1 n2 n3 n4 n5 => kk _ _ (k03 _ _ z n5) n5) C4.M C4.O (by omega)
  repeat walk_at "mst"
  refine k_iteD (fun z => ?_) (fun z => ?_)
  · repeat walk_at "mst"
    refine use_draw (n := 3) C3.tp (by decide) (by decide) fun v1 H4 v10 v11 k4 tp4 => ?_
    repeat walk_at "mst"
    refine use_draw (n := 1000000) tp4 (by decide) (by decide) fun v2 H5 v20 v21 k5 tp5 => ?_
    repeat walk_at "mst"
    walk_at "new"; rename_i l6 nl6 H6 e6 s6
    have tl6 := tp5.ne nl6
    repeat walk_at "mst"
    refine use_draw (n := 2) (tp5.ex e6) (by decide) (by decide) fun v3 H7 v30 v31 k7 tp7 => ?_
    have s7 := k7 _ _ s6 tl6.symm
    have k37 : Tk t H3 H7 := ((k4.trans k5).trans (Tk.of e6)).trans k7
    have C7 := C3.draw k37 tp7
    obtain ⟨i, hi, bi⟩ : ∃ i : Int, atI [V.int ((zs.length : Int) + v1), V.int (-1 - v2)] v3 = some (.int i) ∧ (i < 0 ∨ ((mvQ (sdF k) gs).length : Int) ≤ i) := by
      have : v3 = 0 ∨ v3 = 1 := by omega
      rcases this with rfl | rfl
      · exact ⟨_, rfl, Or.inr (by rw [← zl]; omega)⟩
      · exact ⟨_, rfl, Or.inl (by omega)⟩
    repeat walk_at "mst"
    refine k_ixL (k_sq s7) hi ?_
    repeat walk_at "mst"
    refine use_nomove C7.M hg few1 (Or.inr ⟨i, rfl, by rw [et]; exact bi⟩) fun H8 e8 => ?_
    repeat walk_at "mst"
    exact stay _ (k37.trans (Tk.of e8)) (tp7.ex e8)
  have hoi3 := C3.O.hi
  repeat walk_at "mst"
  refine k_iteD (fun z3 => ?_) (fun z3 => ?_)
  · repeat walk_at "mst"
    refine ⟨d, _, rfl, C3.O.recs, ?_⟩
    repeat walk_at "mst"
    walk_at "new"; rename_i l4 nl4 H4 e4 s4
    have C4 := C3.ex e4
    repeat walk_at "mst"
    refine ⟨li2, l4, ns.map V.int, rfl, rfl, e4 _ _ hoi3, s4, ?_⟩
    repeat walk_at "mst"
    refine k_iteD (fun z4 => ?_) (fun z4 => ?_)
    · have hn : ns = [] := by rw [List.length_map] at z4; exact List.length_eq_zero_iff.mp z4
      repeat walk_at "mst"
      refine use_nomove C4.M hg few1 (Or.inl ⟨rfl, hn⟩) fun H5 e5 => ?_
      repeat walk_at "mst"
      exact stay _ (Tk.of (e4.trans e5)) (tp3.ex (e4.trans e5))
    · have nn : ns ≠ [] := fun h => z4 (by rw [h]; rfl)
      repeat walk_at "mst"
      refine k_iteD (fun _ => ?_) (fun z5 => absurd z3 z5)
      obtain ⟨ns0, zz, hns⟩ : ∃ ns0 z, ns = ns0 ++ [z] := ⟨ns.dropLast, ns.getLast nn, (List.dropLast_concat_getLast nn).symm⟩
      have hi4 : H4 li2 = some (.lst (ns0.map V.int ++ [V.int zz])) := by
        have := C4.O.hi
        rw [hns, List.map_append, List.map_singleton] at this
        exact this
      obtain ⟨ms4, hm4, R4⟩ := C4.O.hm
      have ml := R4.1
      have mn : ms4 ≠ [] := fun h => by rw [h] at ml; simp at ml; omega
      obtain ⟨ms0, ym, rfl⟩ : ∃ ms0 y, ms4 = ms0 ++ [y] := ⟨ms4.dropLast, ms4.getLast mn, (List.dropLast_concat_getLast mn).symm⟩
      repeat walk_at "mst"
      refine ⟨d, _, rfl, C4.O.recs, ?_⟩
      repeat walk_at "mst"
      refine k_rPop hi4 ?_
      have k5 : ∀ c o, H4 c = some o → c ≠ li2 → upd H4 li2 (HO.lst (ns0.map V.int)) c = some o := fun c o z n => (upd_ne n).trans z
      have s5 : upd H4 li2 (HO.lst (ns0.map V.int)) li2 = some (HO.lst (ns0.map V.int)) := upd_same
      have kl5 : Kl H4 (upd H4 li2 (HO.lst (ns0.map V.int))) := Kl.set hi4 k5
      generalize upd H4 li2 (HO.lst (ns0.map V.int)) = H5 at *
      obtain ⟨kvs, hd4, ha, hb, hc⟩ := C4.O.hd
      have hd5 := k5 _ _ hd4 (ne_of hd4 hi4 (by intro y; cases y))
      have hm5 := k5 _ _ hm4 C4.O.ne
      have dm5 : DGet H5 d (.str "meetings") (some (.ref lm2)) := by rw [← hb]; exact DGet.k (k := Sum.inr "meetings") hd5
      repeat walk_at "mst"
      refine ⟨d, _, rfl, dm5, ?_⟩
      repeat walk_at "mst"
      refine k_rPop hm5 ?_
      have k6 : ∀ c o, H5 c = some o → c ≠ lm2 → upd H5 lm2 (HO.lst ms0) c = some o := fun c o z n => (upd_ne n).trans z
      have s6 : upd H5 lm2 (HO.lst ms0) lm2 = some (HO.lst ms0) := upd_same
      have kl6 : Kl H5 (upd H5 lm2 (HO.lst ms0)) := Kl.set hm5 k6
      generalize upd H5 lm2 (HO.lst ms0) = H6 at *
      have kl46 := kl5.trans kl6
      have M6 : MaS K a dx (sdF fi) lm li GS ns H6 := C4.M.kl kl46 (fun o z => k6 _ _ (k5 _ _ z C.n1.2.1) C.n1.1) (fun o z => k6 _ _ (k5 _ _ z C.n1.2.2.2) C.n1.2.2.1)
      have glen : GS.length - 1 = ms0.length := by rw [List.length_append, List.length_singleton] at ml; omega
      have O6 : MoS K d fi lm2 li2 GS.dropLast ns.dropLast H6 := ⟨⟨kvs, k6 _ _ hd5 (ne_of hd5 hm5 (by intro y; cases y)), ha, hb, hc⟩, ⟨ms0, s6, by
        have Rt := (R4.imp fun y c q => q.kl kl46).take ms0.length
        rw [List.take_left] at Rt
        rw [List.dropLast_eq_take, glen]
        exact Rt⟩, by rw [hns, List.dropLast_concat]; exact k6 _ _ s5 C4.O.ne.symm, f2, C4.O.ne⟩
      have kH6 : ∀ c o, H c = some o → c ≠ lm → c ≠ li → c ≠ lm2 → c ≠ li2 → c ≠ t → H6 c = some o := fun c o z n1 n2 n3 n4 n5 => k6 _ _ (k5 _ _ (e4 _ _ (k03 _ _ z n5)) n4) n3
      obtain ⟨msm, hmm, _⟩ := M6.hm
      repeat walk_at "mst"
      refine ⟨a, dx, _, rfl, M6.ins, mafs_no _ _ _ (by decide +kernel) (by decide +kernel) (by decide +kernel), ?_⟩
      repeat walk_at "mst"
      refine use_back M6 (Or.inr ⟨nn, fun H7 k7 M7 => ?_⟩)
      have O7 := O6.kl (Kl.two hmm M6.hi k7) (fun o z => k7 _ _ z C.n1.1.symm C.n1.2.2.1.symm) (fun o z => k7 _ _ z C.n1.2.1.symm C.n1.2.2.2.symm)
      repeat walk_at "mst"
      exact q H7 _ _ (fun c o z n1 n2 n3 n4 n5 => k7 _ _ (kH6 c o z n1 n2 n3 n4 n5) n1 n2) M7 O7 (by rw [List.length_dropLast]; omega)
  · repeat walk_at "mst"
    refine k_iteD (fun z5 => absurd z5 z3) (fun _ => ?_)
    repeat walk_at "mst"
    walk_at "new"; rename_i l4 nl4 H4 e4 s4
    have C4 := C3.ex e4
    have hp4 := e4 _ _ hp3
    repeat walk_at "mst"
    refine ⟨p, l4, zs, rfl, rfl, hp4, s4, ?_⟩
    repeat walk_at "mst"
    refine k_iteD (fun z4 => ?_) (fun z4 => ?_)
    · repeat walk_at "mst"
      refine use_nomove C4.M hg few1 (Or.inr ⟨0, rfl, Or.inr (by rw [et, ← zl]; omega)⟩) fun H5 e5 => ?_
      repeat walk_at "mst"
      exact stay _ (Tk.of (e4.trans e5)) (tp3.ex (e4.trans e5))
    · repeat walk_at "mst"
      refine use_draw (n := (zs.length : Int)) C4.tp (by omega) (by omega) fun i H5 i0 i1 k5 tp5 => ?_
      have C5 := C4.draw k5 tp5
      have hp5 := k5 _ _ hp4 npt
      have kl35 : Kl H3 H5 := (Kl.of e4).trans (tape_klD C4.tp k5)
      have M25 := M23.kl kl35
      have Rb5 := Rb3.kl kl35
      obtain ⟨dx5, t5, hi5, ht5⟩ := id M25
      obtain ⟨j, rfl⟩ : ∃ j : Nat, i = j := ⟨i.toNat, by omega⟩
      have jl : j < (mvQ (sdF k) gs).length := by rw [← zl]; omega
      have hm := List.getElem?_eq_getElem jl
      generalize (mvQ (sdF k) gs)[j]'jl = m at *
      have mlt := mvQ_lt (List.mem_of_getElem? hm)
      obtain ⟨y, hy, u, o, rfl, hu, bo⟩ := (T3.imp fun y c q => q.kl kl35).2 j m hm
      have yl := Rb5.1
      repeat walk_at "mst"
      refine ⟨mt2, dx5, _, rfl, hi5, mfs_no t5 (by decide +kernel), ?_⟩
      repeat walk_at "mst"
      refine use_mboards M25 l82 fun b6 H6 nb6 e6 hb6 => ?_
      have hp6 := e6 _ _ hp5
      have hu6 := e6 _ _ hu
      repeat walk_at "mst"
      refine k_ixL (k_sq hp6) (atI_nat hy) ?_
      repeat walk_at "mst"
      refine k_ixL (k_sq hp6) (atI_nat hy) ?_
      repeat walk_at "mst"
      refine ⟨b6, _, m.1, m.1, rfl, rfl, hb6, by unfold ixN; rw [if_pos (by omega), if_pos (by omega), Int.toNat_natCast], ?_⟩
      have e57 : Ex H5 (upd H6 b6 (HO.lst (ys2.set m.1 o))) := Evl.Ex.mut e6 nb6
      have s7 : upd H6 b6 (HO.lst (ys2.set m.1 o)) b6 = some (HO.lst (ys2.set m.1 o)) := upd_same
      generalize upd H6 b6 (HO.lst (ys2.set m.1 o)) = H7 at *
      have C7 := C5.ex e57
      have Rb7 : BsS K H7 (ys2.set m.1 o) (gs.set m.1 m.2) := (Rb5.kl (Kl.of e57)).set (bo.kl (Kl.of e57))
      obtain ⟨ms7, hm7, _⟩ := C7.O.hm
      repeat walk_at "mst"
      refine ⟨d, _, rfl, C7.O.meets, ?_⟩
      repeat walk_at "mst"
      refine mk_mt (k_sq s7) Rb7.bv (by rw [List.length_set]; exact l82) fun x8 H8 nx8 e8 hx8 => ?_
      have C8 := C7.ex e8
      have hm8 := e8 _ _ hm7
      obtain ⟨ms8, hm8', R8⟩ := C8.O.hm
      rw [hm8] at hm8'; cases hm8'
      have r8l := R8.1
      have R8' : AllAt (MtS K) H8 (ms7 ++ [.ref x8]) (GS ++ [gs.set m.1 m.2]) := AllAt.app R8 (AllAt.one ⟨x8, _, rfl, hx8, Rb7.kl (Kl.of e8), by rw [List.length_set]; exact l82⟩)
      repeat walk_at "mst"
      · exact Nat.lt_of_le_of_lt (show _ ≤ 2000 by omega) (by decide)
      have k9 : ∀ c o, H8 c = some o → c ≠ lm2 → upd H8 lm2 (HO.lst (ms7 ++ [V.ref x8])) c = some o := fun c o z n => (upd_ne n).trans z
      have s9 : upd H8 lm2 (HO.lst (ms7 ++ [V.ref x8])) lm2 = some (HO.lst (ms7 ++ [V.ref x8])) := upd_same
      have kl9 : Kl H8 (upd H8 lm2 (HO.lst (ms7 ++ [V.ref x8]))) := Kl.set hm8 k9
      generalize upd H8 lm2 (HO.lst (ms7 ++ [V.ref x8])) = H9 at *
      obtain ⟨kvs, hd8, ha, hb, hc⟩ := C8.O.hd
      have hd9 := k9 _ _ hd8 (ne_of hd8 hm8 (by intro y; cases y))
      have hr9 := k9 _ _ C8.O.hi C8.O.ne.symm
      have dr9 : DGet H9 d (.str "record") (some (.ref li2)) := by rw [← hc]; exact DGet.k (k := Sum.inr "record") hd9
      repeat walk_at "mst"
      refine ⟨d, _, rfl, dr9, ?_⟩
      repeat walk_at "mst"
      · rw [List.length_map]; exact Nat.lt_of_le_of_lt (show _ ≤ 2000 by omega) (by decide)
      have kA : ∀ c o, H9 c = some o → c ≠ li2 → upd H9 li2 (HO.lst (ns.map V.int ++ [V.int (j : Int)])) c = some o := fun c o z n => (upd_ne n).trans z
      have sA : upd H9 li2 (HO.lst (ns.map V.int ++ [V.int (j : Int)])) li2 = some (HO.lst (ns.map V.int ++ [V.int (j : Int)])) := upd_same
      have klA : Kl H9 (upd H9 li2 (HO.lst (ns.map V.int ++ [V.int (j : Int)]))) := Kl.set hr9 kA
      generalize upd H9 li2 (HO.lst (ns.map V.int ++ [V.int (j : Int)])) = HA at *
      have kl8A := kl9.trans klA
      have MA : MaS K a dx (sdF fi) lm li GS ns HA := C8.M.kl kl8A (fun o z => kA _ _ (k9 _ _ z C.n1.1) C.n1.2.1) (fun o z => kA _ _ (k9 _ _ z C.n1.2.2.1) C.n1.2.2.2)
      have OA : MoS K d fi lm2 li2 (GS ++ [gs.set m.1 m.2]) (ns ++ [(j : Int)]) HA := ⟨⟨kvs, kA _ _ hd9 (ne_of hd9 hr9 (by intro y; cases y)), ha, hb, hc⟩, ⟨_, kA _ _ s9 C8.O.ne, R8'.imp fun y c q => q.kl kl8A⟩, by rw [List.map_append]; exact sA, f2, C8.O.ne⟩
      have kHA : ∀ c o, H c = some o → c ≠ lm → c ≠ li → c ≠ lm2 → c ≠ li2 → c ≠ t → HA c = some o := fun c o z n1 n2 n3 n4 n5 => kA _ _ (k9 _ _ (e8 _ _ (e57 _ _ (k5 _ _ (e4 _ _ (k03 _ _ z n5)) n5))) n3) n4
      obtain ⟨msm, hmm, _⟩ := MA.hm
      repeat walk_at "mst"
      refine ⟨a, dx, _, rfl, MA.ins, mafs_no _ _ _ (by decide +kernel) (by decide +kernel) (by decide +kernel), ?_⟩
      repeat walk_at "mst"
      refine use_play MA hg few1 (Or.inr ⟨m, by omega, by rw [et, Int.toNat_natCast]; exact hm, fun HB kB MB => ?_⟩)
      have OB := OA.kl (Kl.two hmm MA.hi kB) (fun o z => kB _ _ z C.n1.1.symm C.n1.2.2.1.symm) (fun o z => kB _ _ z C.n1.2.1.symm C.n1.2.2.2.symm)
      repeat walk_at "mst"
      exact q HB _ _ (fun c o z n1 n2 n3 n4 n5 => kB _ _ (kHA c o z n1 n2 n3 n4 n5) n1 n2) MB OB (by rw [List.length_append]; exact Nat.le_refl _)
theorem use_deed {K : PySem.W.Frag} {H : Hp} {Q : VK} {E : XK} {a dx lm li d lm2 li2 t : Addr} {fi : Nat} {GS : List (List BSt)} {ns : List Int} (C : De K a dx lm li d lm2 li2 t fi GS ns H) (few : ns.length ≤ 200)
    (q : ∀ H' GS' ns', (∀ c o, H c = some o → c ≠ lm → c ≠ li → c ≠ lm2 → c ≠ li2 → c ≠ t → H' c = some o) → MaS K a dx (sdF fi) lm li GS' ns' H' → MoS K d fi lm2 li2 GS' ns' H' → ns'.length ≤ ns.length + 1 → Q (.bl true) H') : sp_law_deed K ([.ref a, .ref d, .ref t] ++ []) H Q E := ⟨a, dx, lm, li, d, lm2, li2, t, fi, GS, ns, rfl, C, few, q⟩
def sp_law (K : PySem.W.Frag) : Sp := spR (fun vs H => ∃ (a : Addr) (ns : List Int), vs = [.ref a] ∧ SqL K H a (ns.map V.int) ∧ ns.length ≤ 63) (fun _ _ v _ => v = .bl true)
structure PR where
  a : Addr
  dx : Addr
  lm : Addr
  li : Addr
  d : Addr
  lm2 : Addr
  li2 : Addr
  fi : Nat
  GS : List (List BSt)
  ns : List Int
/-- a match and its model; H0: the start of the law; mp, qp: the law's lists -/
structure PR.ok (K : PySem.W.Frag) (H0 : Hp) (mp qp : Addr) (r : PR) (H : Hp) : Prop where
  M : MaS K r.a r.dx (sdF r.fi) r.lm r.li r.GS r.ns H
  O : MoS K r.d r.fi r.lm2 r.li2 r.GS r.ns H
  n1 : r.lm ≠ r.lm2 ∧ r.lm ≠ r.li2 ∧ r.li ≠ r.lm2 ∧ r.li ≠ r.li2
  nm : r.lm ≠ mp ∧ r.li ≠ mp ∧ r.lm2 ≠ mp ∧ r.li2 ≠ mp
  nq : r.lm ≠ qp ∧ r.li ≠ qp ∧ r.lm2 ≠ qp ∧ r.li2 ≠ qp
  h0 : H0 r.lm = none ∧ H0 r.li = none ∧ H0 r.lm2 = none ∧ H0 r.li2 = none
def PR.apart (r s : PR) : Prop := (r.lm ≠ s.lm ∧ r.lm ≠ s.li ∧ r.lm ≠ s.lm2 ∧ r.lm ≠ s.li2) ∧ (r.li ≠ s.lm ∧ r.li ≠ s.li ∧ r.li ≠ s.lm2 ∧ r.li ≠ s.li2) ∧ (r.lm2 ≠ s.lm ∧ r.lm2 ≠ s.li ∧ r.lm2 ≠ s.lm2 ∧ r.lm2 ≠ s.li2) ∧ (r.li2 ≠ s.lm ∧ r.li2 ≠ s.li ∧ r.li2 ≠ s.lm2 ∧ r.li2 ≠ s.li2)
section
variable {K : PySem.W.Frag} {H0 : Hp} {mp qp : Addr} {r s : PR} {H H' : Hp}
theorem PR.ok.has (h : r.ok K H0 mp qp H) : (∃ x, H r.lm = some (.lst x)) ∧ (∃ x, H r.li = some (.lst x)) ∧ (∃ x, H r.lm2 = some (.lst x)) ∧ ∃ x, H r.li2 = some (.lst x) :=
  ⟨let ⟨ms, z, _⟩ := h.M.hm; ⟨ms, z⟩, ⟨_, h.M.hi⟩, let ⟨ms, z, _⟩ := h.O.hm; ⟨ms, z⟩, ⟨_, h.O.hi⟩⟩
theorem PR.ok.kl (h : r.ok K H0 mp qp H) (k : Kl H H') (k1 : ∀ o, H r.lm = some o → H' r.lm = some o) (k2 : ∀ o, H r.li = some o → H' r.li = some o) (k3 : ∀ o, H r.lm2 = some o → H' r.lm2 = some o) (k4 : ∀ o, H r.li2 = some o → H' r.li2 = some o) : r.ok K H0 mp qp H' :=
  ⟨h.M.kl k k1 k2, h.O.kl k k3 k4, h.n1, h.nm, h.nq, h.h0⟩
theorem PR.ok.ex (h : r.ok K H0 mp qp H) (e : Ex H H') : r.ok K H0 mp qp H' := h.kl (Kl.of e) (fun o z => e _ _ z) (fun o z => e _ _ z) (fun o z => e _ _ z) fun o z => e _ _ z
/-- a list that is none of its own changes -/
theorem PR.ok.but (h : r.ok K H0 mp qp H) {p : Addr} {xs : List V} (hp : H p = some (.lst xs)) (n : r.lm ≠ p ∧ r.li ≠ p ∧ r.lm2 ≠ p ∧ r.li2 ≠ p) (k : ∀ c o, H c = some o → c ≠ p → H' c = some o) : r.ok K H0 mp qp H' :=
  h.kl (Kl.set hp k) (fun o z => k _ _ z n.1) (fun o z => k _ _ z n.2.1) (fun o z => k _ _ z n.2.2.1) fun o z => k _ _ z n.2.2.2
theorem PR.ok.tk (h : r.ok K H0 mp qp H) {t : Addr} (tp : TapeAt H t) (n : r.lm ≠ t ∧ r.li ≠ t ∧ r.lm2 ≠ t ∧ r.li2 ≠ t) (k : Tk t H H') : r.ok K H0 mp qp H' := let ⟨_, _, _, z⟩ := tp; h.but z n k
theorem PR.ok.fresh (h : r.ok K H0 mp qp H) {p : Addr} (n : H p = none) : r.lm ≠ p ∧ r.li ≠ p ∧ r.lm2 ≠ p ∧ r.li2 ≠ p := by
  obtain ⟨⟨_, a⟩, ⟨_, b⟩, ⟨_, c⟩, ⟨_, d⟩⟩ := h.has
  exact ⟨ne_of_none a n, ne_of_none b n, ne_of_none c n, ne_of_none d n⟩
end
/-- the law's two lists, and two pairs with at most i moves -/
def Two (K : PySem.W.Frag) (H0 : Hp) (mp qp : Addr) (i : Nat) (H : Hp) : Prop := ∃ r0 r1 : PR, H mp = some (.lst [.ref r0.a, .ref r1.a]) ∧ H qp = some (.lst [.ref r0.d, .ref r1.d]) ∧ (r0.ok K H0 mp qp H ∧ r0.ns.length ≤ i) ∧ (r1.ok K H0 mp qp H ∧ r1.ns.length ≤ i) ∧ r0.apart r1
def PR.up (r : PR) (GS : List (List BSt)) (ns : List Int) : PR := ⟨r.a, r.dx, r.lm, r.li, r.d, r.lm2, r.li2, r.fi, GS, ns⟩
/-- what one deed keeps -/
def Dk (r : PR) (t : Addr) (H H' : Hp) : Prop := ∀ c o, H c = some o → c ≠ r.lm → c ≠ r.li → c ≠ r.lm2 → c ≠ r.li2 → c ≠ t → H' c = some o
theorem Two.pick {K : PySem.W.Frag} {H0 : Hp} {mp qp : Addr} {i : Nat} {H : Hp} (T : Two K H0 mp qp i H) {w : Nat} (hw : w < 2) {t : Addr} (nt : H t = none) :
    ∃ (xs ys : List V) (r : PR), H mp = some (.lst xs) ∧ H qp = some (.lst ys) ∧ xs[w]? = some (.ref r.a) ∧ ys[w]? = some (.ref r.d) ∧ r.ok K H0 mp qp H ∧ r.ns.length ≤ i ∧
      ∀ H' GS ns, (r.up GS ns).ok K H0 mp qp H' → ns.length ≤ i + 1 → Dk r t H H' → Two K H0 mp qp (i + 1) H' := by
  obtain ⟨r0, r1, hm, hq, ⟨k0, l0⟩, ⟨k1, l1⟩, ap⟩ := T
  have kl : ∀ (r : PR) H', r.ok K H0 mp qp H → Dk r t H H' → Kl H H' := fun r H' k D c o z n => by
    obtain ⟨⟨_, a⟩, ⟨_, b⟩, ⟨_, e⟩, ⟨_, f⟩⟩ := k.has
    refine D c o z ?_ ?_ ?_ ?_ (ne_of_none z nt)
    · rintro rfl; rw [a] at z; cases z; exact n _ rfl
    · rintro rfl; rw [b] at z; cases z; exact n _ rfl
    · rintro rfl; rw [e] at z; cases z; exact n _ rfl
    · rintro rfl; rw [f] at z; cases z; exact n _ rfl
  have hw : w = 0 ∨ w = 1 := by omega
  rcases hw with rfl | rfl
  · refine ⟨_, _, r0, hm, hq, rfl, rfl, k0, l0, fun H' GS ns k l D => ⟨r0.up GS ns, r1, D _ _ hm k0.nm.1.symm k0.nm.2.1.symm k0.nm.2.2.1.symm k0.nm.2.2.2.symm (ne_of_none hm nt), D _ _ hq k0.nq.1.symm k0.nq.2.1.symm k0.nq.2.2.1.symm k0.nq.2.2.2.symm (ne_of_none hq nt), ⟨k, l⟩, ⟨?_, by omega⟩, ap⟩⟩
    have f := k1.fresh nt
    obtain ⟨⟨a1, a2, a3, a4⟩, ⟨b1, b2, b3, b4⟩, ⟨c1, c2, c3, c4⟩, ⟨d1, d2, d3, d4⟩⟩ := ap
    exact k1.kl (kl _ _ k0 D) (fun o z => D _ _ z a1.symm b1.symm c1.symm d1.symm f.1) (fun o z => D _ _ z a2.symm b2.symm c2.symm d2.symm f.2.1) (fun o z => D _ _ z a3.symm b3.symm c3.symm d3.symm f.2.2.1) (fun o z => D _ _ z a4.symm b4.symm c4.symm d4.symm f.2.2.2)
  · refine ⟨_, _, r1, hm, hq, rfl, rfl, k1, l1, fun H' GS ns k l D => ⟨r0, r1.up GS ns, D _ _ hm k1.nm.1.symm k1.nm.2.1.symm k1.nm.2.2.1.symm k1.nm.2.2.2.symm (ne_of_none hm nt), D _ _ hq k1.nq.1.symm k1.nq.2.1.symm k1.nq.2.2.1.symm k1.nq.2.2.2.symm (ne_of_none hq nt), ⟨?_, by omega⟩, ⟨k, l⟩, ap⟩⟩
    have f := k0.fresh nt
    obtain ⟨⟨a1, a2, a3, a4⟩, ⟨b1, b2, b3, b4⟩, ⟨c1, c2, c3, c4⟩, ⟨d1, d2, d3, d4⟩⟩ := ap
    exact k0.kl (kl _ _ k1 D) (fun o z => D _ _ z a1 a2 a3 a4 f.1) (fun o z => D _ _ z b1 b2 b3 b4 f.2.1) (fun o z => D _ _ z c1 c2 c3 c4 f.2.2.1) (fun o z => D _ _ z d1 d2 d3 d4 f.2.2.2)
theorem Two.ex {K : PySem.W.Frag} {H0 : Hp} {mp qp : Addr} {i : Nat} {H H' : Hp} (T : Two K H0 mp qp i H) (e : Ex H H') : Two K H0 mp qp i H' := by
  obtain ⟨r0, r1, hm, hq, ⟨k0, l0⟩, ⟨k1, l1⟩, ap⟩ := T
  exact ⟨r0, r1, e _ _ hm, e _ _ hq, ⟨k0.ex e, l0⟩, ⟨k1.ex e, l1⟩, ap⟩
local macro_rules | `(tactic| walk_at "new") => `(tactic| ((first | refine ⟨fits (Nat.le_of_ble_eq_true rfl), ?_⟩ | skip); intro p np; generalize hq : upd _ p _ = H1; have e1 := nx np hq; have s1 := nS hq; clear hq))
/-- {"first": first, "meetings": [meeting], "record": []} -/
theorem te_model {σ : L2.St} {H : Hp} {Q : VK} {n : Int} {m : Addr} (h7 : σ[7]? = some (some (.int n))) (h5 : σ[5]? = some (some (.ref m)))
    (q : ∀ d l1 l2 H', H d = none → H l1 = none → H l2 = none → l1 ≠ l2 → Ex H H' → (∃ kvs, H' d = some (.dK kvs) ∧ valV kvs (Sum.inr "first") = some (.int n) ∧ valV kvs (Sum.inr "meetings") = some (.ref l1) ∧ valV kvs (Sum.inr "record") = some (.ref l2)) → H' l1 = some (.lst [.ref m]) → H' l2 = some (.lst []) → Q (.ref d) H') :
    tDisp [((tC (.str "first")), (tVar 7)), ((tC (.str "meetings")), (tLst (tCons (tVar 5) tNil))), ((tC (.str "record")), (tLst tNil))] σ H Q := by
  intro d nd
  have e0 := Evl.Ex.new (o := HO.dK []) nd
  have s0 : upd H d (HO.dK []) d = some (HO.dK []) := upd_same
  generalize upd H d (HO.dK []) = H1 at *
  show tPairs _ _ _ _
  unfold tPairs
  refine k_c ?_
  refine ⟨_, h7, ?_⟩
  show tPairs _ _ _ _
  unfold tPairs
  refine k_c ?_
  refine ⟨_, h5, ?_⟩
  walk_at "new"; rename_i l1 n1 H2 e2 s2
  show tPairs _ _ _ _
  unfold tPairs
  refine k_c ?_
  walk_at "new"; rename_i l2 n2 H3 e3 s3
  show tPairs _ _ _ _
  unfold tPairs
  have s1d := e3 _ _ (e2 _ _ s0)
  have l1d : l1 ≠ d := (ne_of_none s0 n1).symm
  have l2d : l2 ≠ d := (ne_of_none (e2 _ _ s0) n2).symm
  exact ⟨s1d, [(Sum.inr "first", .int n), (Sum.inr "meetings", .ref l1), (Sum.inr "record", .ref l2)], rfl, by show 3 ≤ 15; decide, q d l1 l2 _ nd (Evl.fresh_back e0 n1) (Evl.fresh_back (e0.trans e2) n2) (ne_of_none s2 n2) (Evl.Ex.mut ((e0.trans e2).trans e3) nd) ⟨_, upd_same, rfl, rfl, rfl⟩ ((upd_ne l1d).trans (e3 _ _ s2)) ((upd_ne l2d).trans s3)⟩
abbrev N_law : List Str := ["script", "matches", "models", "k", "tape", "meeting", "j", "first", "strange", "which"]
def t_law (K : PySem.W.Frag) (E : XK) : TS := (tSeq (tAsg (tLst tNil) (gName 1)) (tSeq (tAsg (tLst tNil) (gName 2)) (tSeq (tFor (iRng1 (tCons (tC (.int 2)) tNil)) (gName 3) (tSeq (tAsg (tCall (sp_law_tape K) [] E0 (tCons (tOp (rIxL K) (tOp (rCatL K) (tVar 0) (tLst (tCons (tVar 3) (tCons (tVar 3) tNil)))) (tVar 3)) (tCons (tVar 3) tNil))) (gName 4)) (tSeq (tAsg (tMake (He.ga K "Meeting") (sp_Meeting_d_init K) [] E0 (tCons (tLc (iRng1 (tCons (tOp rAddI (tC (.int 1)) (tCall (sp_law_draw K) [] E0 (tCons (tVar 4) (tCons (tC (.int 3)) tNil)))) tNil)) (gName 6) tYes (tCall (sp_law_board K) [] E0 (tCons (tVar 4) tNil)) [6]) tNil)) (gName 5)) (tSeq (tAsg (tCall (sp_law_draw K) [] E0 (tCons (tVar 4) (tCons (tC (.int 2)) tNil))) (gName 7)) (tSeq (tDrop (tBM K "list" rAppend (tVar 1) (tCons (tMake (He.ga K "Match") (sp_Match_d_init K) [] E0 (tCons (tVar 5) (tCons (tOp (rIxL K) (tLst (tCons (tC (.str "left")) (tCons (tC (.str "right")) tNil))) (tVar 7)) tNil))) tNil))) (tSeq (tDrop (tBM K "list" rAppend (tVar 2) (tCons (tDisp [((tC (.str "first")), (tVar 7)), ((tC (.str "meetings")), (tLst (tCons (tVar 5) tNil))), ((tC (.str "record")), (tLst tNil))]) tNil))) (tSeq (tAsg (tOp (rIxL K) (tLst (tCons (tC (.str "Left")) (tCons (tC (.str "")) (tCons (tC (.str "both")) (tCons (tC (.str "rightleft")) tNil))))) (tCall (sp_law_draw K) [] E0 (tCons (tVar 4) (tCons (tC (.int 4)) tNil)))) (gName 8)) (tIfS (tNot (tB (tCall (sp_law_bad_side K) [] E0 (tCons (tVar 5) (tCons (tVar 8) tNil))))) (tRet (tC (.bl false))) tNext)))))))) (tSeq (tFor (iRng2 (tCons (tC (.int 2)) (tCons (tCB rMin2 (tCons (tCB (rLenQ K) (tCons (tVar 0) tNil)) (tCons (tC (.int 50)) tNil))) tNil))) (gName 3) (tSeq (tAsg (tCall (sp_law_tape K) [] E0 (tCons (tOp (rIxL K) (tVar 0) (tVar 3)) (tCons (tVar 3) tNil))) (gName 4)) (tSeq (tAsg (tCall (sp_law_draw K) [] E0 (tCons (tVar 4) (tCons (tC (.int 2)) tNil))) (gName 9)) (tIfS (tOr (tNot (tB (tCall (sp_law_deed K) [] E0 (tCons (tOp (rIxL K) (tVar 1) (tVar 9)) (tCons (tOp (rIxL K) (tVar 2) (tVar 9)) (tCons (tVar 4) tNil)))))) (tNot (tB (tCall (sp_law_is K) [] E0 (tCons (tOp (rIxL K) (tVar 1) (tVar 9)) (tCons (tOp (rIxL K) (tVar 2) (tVar 9)) tNil)))))) (tRet (tC (.bl false))) tNext)))) (tRet (tAndV (tCall (sp_law_is K) [] E0 (tCons (tOp (rIxL K) (tVar 1) (tC (.int 0))) (tCons (tOp (rIxL K) (tVar 2) (tC (.int 0))) tNil))) (tCall (sp_law_is K) [] E0 (tCons (tOp (rIxL K) (tVar 1) (tC (.int 1))) (tCons (tOp (rIxL K) (tVar 2) (tC (.int 1))) tNil)))))))))
theorem len_law {K : PySem.W.Frag} {vs : List V} {H : Hp} {Q : VK} {E : XK} (h : sp_law K vs H Q E) : vs.length = 1 := by
  obtain ⟨⟨_, _, rfl, _⟩, _⟩ := h; rfl
theorem pure_law {K : PySem.W.Frag} (vs : List V) (H : Hp) (Q : VK) (E : XK) (h : sp_law K vs H Q E) : t_law K E { nx := fun _ H' => Q .non H', rt := Q } (start N_law vs) H := by
  obtain ⟨⟨a, ns, rfl, hS, n63⟩, q⟩ := h
  have fin : ∀ b H', b = true → Q (.bl b) H' := by rintro b H' rfl; exact q _ _ rfl
  unfold t_law
  repeat walk_at "mst"
  walk_at "new"; rename_i mp nmp H1 e1 s1
  repeat walk_at "mst"
  walk_at "new"; rename_i qp nqp H2 e2 s2
  have nmq : mp ≠ qp := ne_of_none s1 nqp
  have s1 := e2 _ _ s1
  have e02 := e1.trans e2
  have nqpH := Evl.fresh_back e1 nqp
  repeat walk_at "mst"
  refine ⟨2, rfl, by decide, by decide, ?_⟩
  refine forK_range (n := 2) (fun i σ H' => Ex H H' ∧ (∃ rs : List PR, rs.length = i ∧ H' mp = some (.lst (rs.map fun r => .ref r.a)) ∧ H' qp = some (.lst (rs.map fun r => .ref r.d)) ∧ (∀ r ∈ rs, r.ok K H mp qp H' ∧ r.ns = []) ∧ rs.Pairwise PR.apart) ∧ ∃ x3 x4 x5 x7 x8 : Option V, σ = [some (.ref a), some (.ref mp), some (.ref qp), x3, x4, x5, none, x7, x8, none]) ⟨e02, ⟨[], rfl, s1, s2, (fun r m => by cases m), List.Pairwise.nil⟩, _, _, _, _, _, rfl⟩ ?_ ?_
  · rintro i σ B hi ⟨eB, ⟨rs, rl, hm, hq, ok, ap⟩, x3, x4, x5, x7, x8, rfl⟩
    have hSB := Evl.ex_l eB hS
    repeat walk_at "mst"
    walk_at "new"; rename_i l3 nl3 H3 e3 s3
    refine k_rCatL (Evl.ex_l e3 hSB) s3 (by rw [List.length_map]; exact Nat.le_trans (show _ ≤ 100 by simp; omega) (by decide)) fun l4 nl4 => ?_
    have e4 := Evl.Ex.new (o := HO.lst (ns.map V.int ++ [V.int (i : Int), V.int (i : Int)])) nl4
    have s4 : upd H3 l4 (HO.lst (ns.map V.int ++ [V.int (i : Int), V.int (i : Int)])) l4 = some (HO.lst ((ns ++ [(i : Int), (i : Int)]).map V.int)) := by rw [upd_same, List.map_append]; rfl
    generalize upd H3 l4 (HO.lst (ns.map V.int ++ [V.int (i : Int), V.int (i : Int)])) = H4 at *
    have il : i < (ns ++ [(i : Int), (i : Int)]).length := by rw [List.length_append]; show i < ns.length + 2; omega
    repeat walk_at "mst"
    refine k_ixL (k_sq s4) (atI_nat (j := i) (v := V.int ((ns ++ [(i : Int), (i : Int)])[i]'il)) (by rw [List.getElem?_map, List.getElem?_eq_getElem il]; rfl)) ?_
    repeat walk_at "mst"
    refine use_tape fun t H5 nt e5 tp5 => ?_
    have eB5 : Ex B H5 := (e3.trans e4).trans e5
    have ntB : B t = none := Evl.fresh_back (e3.trans e4) nt
    repeat walk_at "mst"
    refine use_draw (n := 3) tp5 (by decide) (by decide) fun r1 H6 r10 r11 k6 tp6 => ?_
    repeat walk_at "mst"
    refine ⟨_, rfl, by omega, by omega, ?_⟩
    refine lcR_rst (n := (1 + r1).toNat) (fun n acc H' => Tk t H6 H' ∧ TapeAt H' t ∧ ∃ gs, BsS K H' acc gs) (Nat.lt_of_le_of_lt (show _ ≤ 100 by omega) (by decide)) ?_ (fun D hD => ⟨Tk.of (Evl.Ex.new hD), tp6.ex (Evl.Ex.new hD), [], AllAt.nil⟩) ?_ ?_
    · rintro D n acc zs H9 HA hD hd kp ⟨a, b, gs, c⟩
      exact ⟨a.mu hD kp, b.kp (tp6.ne hD) kp, gs, c.kl (Kl.set hd kp)⟩
    · rintro n acc H9 D zs hD hd hn la ⟨a, b, gs, c⟩ R r
      repeat walk_at "mst"
      refine use_board b fun y HA g kA tpA hy => ?_
      obtain ⟨st, hst⟩ := hy.bs
      exact r _ HA (kA _ _ hd (tp6.ne hD).symm) ⟨a.trans kA, tpA, gs ++ [st], AllAt.app (c.kl (tape_klD b kA)) (AllAt.one hst)⟩
    rintro bl ys H7 nbl yl hbl ⟨k7, tp7, gs, R7⟩
    have l8 : ys.length ≤ 8 := by omega
    have kB7 : Tk t B H7 := ((Tk.of eB5).trans k6).trans k7
    have eB7 : Ex B H7 := fun c o z => kB7 _ _ z (ne_of_none z ntB)
    repeat walk_at "mst"
    refine mk_mt (k_sq hbl) R7.bv l8 fun mt H8 nmt e8 hmt => ?_
    have tp8 := tp7.ex e8
    repeat walk_at "mst"
    refine use_draw (n := 2) tp8 (by decide) (by decide) fun f H9 f0 f1 k9 tp9 => ?_
    obtain ⟨fi, rfl⟩ : ∃ fi : Nat, f = fi := ⟨f.toNat, by omega⟩
    have f2 : fi < 2 := by omega
    have kl9 := tape_klD tp8 k9
    have MT : MtS K H9 (.ref mt) gs := ⟨mt, ys, rfl, hmt.kl kl9, (R7.kl (Kl.of e8)).kl kl9, l8⟩
    have kB9 : Tk t B H9 := ((Tk.of eB7).trans (Tk.of e8)).trans k9
    have eB9 : Ex B H9 := fun c o z => kB9 _ _ z (ne_of_none z ntB)
    have hm9 := eB9 _ _ hm
    repeat walk_at "mst"
    walk_at "new"; rename_i lA nlA HA eA sA
    repeat walk_at "mst"
    refine k_ixL (k_sq sA) (atI_nat (sdF_at f2)) ?_
    repeat walk_at "mst"
    refine mk_ma sdF_or (MT.kl (Kl.of eA)) fun ma dxm lm li HB nma nlm nli eB_ M => ?_
    have eB9B : Ex B HB := (eB9.trans eA).trans eB_
    have tp10 := (tp9.ex eA).ex eB_
    have hm10 := eB9B _ _ hm
    have hq10 := eB9B _ _ hq
    have nlmB : B lm = none := Evl.fresh_back (eB9.trans eA) nlm
    have nliB : B li = none := Evl.fresh_back (eB9.trans eA) nli
    have lmt : lm ≠ t := ((tp9.ex eA).ne nlm).symm
    have lit : li ≠ t := ((tp9.ex eA).ne nli).symm
    have lmm : lm ≠ mp := (ne_of_none hm nlmB).symm
    have lim : li ≠ mp := (ne_of_none hm nliB).symm
    have lmq : lm ≠ qp := (ne_of_none hq nlmB).symm
    have liq : li ≠ qp := (ne_of_none hq nliB).symm
    repeat walk_at "mst"
    · rw [List.length_map]; exact Nat.lt_of_le_of_lt (show _ ≤ 100 by omega) (by decide)
    have kC : ∀ c o, HB c = some o → c ≠ mp → upd HB mp (HO.lst (rs.map (fun r => V.ref r.a) ++ [V.ref ma])) c = some o := fun c o z n => (upd_ne n).trans z
    have sC : upd HB mp (HO.lst (rs.map (fun r => V.ref r.a) ++ [V.ref ma])) mp = some (HO.lst (rs.map (fun r => V.ref r.a) ++ [V.ref ma])) := upd_same
    have klC : Kl HB (upd HB mp (HO.lst (rs.map (fun r => V.ref r.a) ++ [V.ref ma]))) := Kl.set hm10 kC
    generalize upd HB mp (HO.lst (rs.map (fun r => V.ref r.a) ++ [V.ref ma])) = HC at *
    have M := M.kl klC (fun o z => kC _ _ z lmm) (fun o z => kC _ _ z lim)
    have tpm : t ≠ mp := (ne_of_none hm ntB).symm
    have tpq : t ≠ qp := (ne_of_none hq ntB).symm
    have tp11 := tp10.kp tpm kC
    have MT := (MT.kl (Kl.of (eA.trans eB_))).kl klC
    have okC : ∀ r ∈ rs, r.ok K H mp qp HC ∧ r.ns = [] := fun r m => ⟨((ok r m).1.ex eB9B).but hm10 (ok r m).1.nm kC, (ok r m).2⟩
    have hqC := kC _ _ hq10 nmq.symm
    have kBC : ∀ c, HC c = none → HB c = none := fun c z => by
      cases h : HB c with
      | none => rfl
      | some o =>
        by_cases e : c = mp
        · rw [e, sC] at z; cases z
        · rw [kC _ _ h e] at z; cases z
    have eHB := Evl.Ex.trans eB eB9B
    repeat walk_at "mst"
    refine te_model rfl rfl fun d l1 l2 HD nd n1 n2 n12 eD hd h1 h2 => ?_
    have n1B := Evl.fresh_back eB9B (kBC _ n1)
    have n2B := Evl.fresh_back eB9B (kBC _ n2)
    obtain ⟨msC, hlmC, _⟩ := M.hm
    have hliC := M.hi
    have d1 : lm ≠ l1 ∧ lm ≠ l2 ∧ li ≠ l1 ∧ li ≠ l2 := ⟨ne_of_none hlmC n1, ne_of_none hlmC n2, ne_of_none hliC n1, ne_of_none hliC n2⟩
    have l1m : l1 ≠ mp := (ne_of_none sC n1).symm
    have l2m : l2 ≠ mp := (ne_of_none sC n2).symm
    have l1q : l1 ≠ qp := (ne_of_none hqC n1).symm
    have l2q : l2 ≠ qp := (ne_of_none hqC n2).symm
    have l1t : l1 ≠ t := (tp11.ne n1).symm
    have l2t : l2 ≠ t := (tp11.ne n2).symm
    have M := M.ex eD
    have MT := MT.kl (Kl.of eD)
    have O : MoS K d fi l1 l2 [gs] [] HD := ⟨hd, ⟨_, h1, AllAt.one MT⟩, h2, f2, n12⟩
    have hqD := eD _ _ hqC
    have hmD := eD _ _ sC
    have tp12 := tp11.ex eD
    repeat walk_at "mst"
    · rw [List.length_map]; exact Nat.lt_of_le_of_lt (show _ ≤ 100 by omega) (by decide)
    have kE : ∀ c o, HD c = some o → c ≠ qp → upd HD qp (HO.lst (rs.map (fun r => V.ref r.d) ++ [V.ref d])) c = some o := fun c o z n => (upd_ne n).trans z
    have sE : upd HD qp (HO.lst (rs.map (fun r => V.ref r.d) ++ [V.ref d])) qp = some (HO.lst (rs.map (fun r => V.ref r.d) ++ [V.ref d])) := upd_same
    have klE : Kl HD (upd HD qp (HO.lst (rs.map (fun r => V.ref r.d) ++ [V.ref d]))) := Kl.set hqD kE
    generalize upd HD qp (HO.lst (rs.map (fun r => V.ref r.d) ++ [V.ref d])) = HE at *
    have M := M.kl klE (fun o z => kE _ _ z lmq) (fun o z => kE _ _ z liq)
    have O := O.kl klE (fun o z => kE _ _ z l1q) (fun o z => kE _ _ z l2q)
    have okE : ∀ r ∈ rs, r.ok K H mp qp HE ∧ r.ns = [] := fun r m => ⟨((okC r m).1.ex eD).but hqD (ok r m).1.nq kE, (ok r m).2⟩
    have hmE := kE _ _ hmD nmq
    have tp13 := tp12.kp tpq kE
    have eHE : Ex H HE := fun c o z => kE _ _ (eD _ _ (kC _ _ (eHB _ _ z) (ne_of_none z nmp))) (ne_of_none z nqpH)
    have hT : H t = none := Evl.fresh_back eB ntB
    repeat walk_at "mst"
    walk_at "new"; rename_i lS nlS HF eF sF
    repeat walk_at "mst"
    refine use_draw (n := 4) (tp13.ex eF) (by decide) (by decide) fun f' HG g0 g1 kG tpG => ?_
    obtain ⟨gi, rfl⟩ : ∃ gi : Nat, f' = gi := ⟨f'.toNat, by omega⟩
    have sG := kG _ _ sF (tp13.ne nlS).symm
    obtain ⟨s, hs, bad⟩ : ∃ s : Str, [V.str "Left", V.str "", V.str "both", V.str "rightleft"][gi]? = some (.str s) ∧ ¬ (s = "left" ∨ s = "right") := by
      have : gi = 0 ∨ gi = 1 ∨ gi = 2 ∨ gi = 3 := by omega
      rcases this with rfl | rfl | rfl | rfl
      · exact ⟨_, rfl, by decide⟩
      · exact ⟨_, rfl, by decide⟩
      · exact ⟨_, rfl, by decide⟩
      · exact ⟨_, rfl, by decide⟩
    refine k_ixL (k_sq sG) (atI_nat hs) ?_
    repeat walk_at "mst"
    refine use_badside bad fun HI eI => ?_
    have kI : Tk t HE HI := ((Tk.of eF).trans kG).trans (Tk.of eI)
    have klI : Kl HE HI := ((Kl.of eF).trans (tape_klD (tp13.ex eF) kG)).trans (Kl.of eI)
    repeat walk_at "mst"
    refine ⟨fun c o z => kI _ _ (eHE _ _ z) (ne_of_none z hT), ⟨rs ++ [⟨ma, dxm, lm, li, d, l1, l2, fi, [gs], []⟩], by rw [List.length_append, rl]; rfl, ?_, ?_, ?_, ?_⟩, _, _, _, _, _, rfl⟩
    · rw [List.map_append]; exact kI _ _ hmE tpm.symm
    · rw [List.map_append]; exact kI _ _ sE tpq.symm
    · intro r m
      rcases List.mem_append.1 m with m | m
      · exact ⟨(okE r m).1.tk tp13 ((ok r m).1.fresh ntB) kI, (okE r m).2⟩
      · obtain rfl := List.mem_singleton.1 m
        exact ⟨⟨M.kl klI (fun o z => kI _ _ z lmt) (fun o z => kI _ _ z lit), O.kl klI (fun o z => kI _ _ z l1t) (fun o z => kI _ _ z l2t), d1, ⟨lmm, lim, l1m, l2m⟩, ⟨lmq, liq, l1q, l2q⟩, ⟨Evl.fresh_back eB nlmB, Evl.fresh_back eB nliB, Evl.fresh_back eB n1B, Evl.fresh_back eB n2B⟩⟩, rfl⟩
    · refine List.pairwise_append.2 ⟨ap, List.pairwise_singleton _ _, fun r m s ms => ?_⟩
      obtain rfl := List.mem_singleton.1 ms
      have a1 := (ok r m).1.fresh nlmB
      have a2 := (ok r m).1.fresh nliB
      have a3 := (ok r m).1.fresh n1B
      have a4 := (ok r m).1.fresh n2B
      exact ⟨⟨a1.1, a2.1, a3.1, a4.1⟩, ⟨a1.2.1, a2.2.1, a3.2.1, a4.2.1⟩, ⟨a1.2.2.1, a2.2.2.1, a3.2.2.1, a4.2.2.1⟩, ⟨a1.2.2.2, a2.2.2.2, a3.2.2.2, a4.2.2.2⟩⟩
  · rintro σ B ⟨eB, ⟨rs, rl, hm, hq, ok, ap⟩, x3, x4, x5, x7, x8, rfl⟩
    obtain ⟨r0, r1, rfl⟩ : ∃ r0 r1, rs = [r0, r1] := by
      match rs, rl with
      | [r0, r1], _ => exact ⟨r0, r1, rfl⟩
    obtain ⟨ok0, ns0⟩ := ok r0 (by simp)
    obtain ⟨ok1, ns1⟩ := ok r1 (by simp)
    have ap01 : r0.apart r1 := (List.pairwise_cons.1 ap).1 r1 (by simp)
    repeat walk_at "mst"
    rename_i m mA mB mC
    refine ⟨_, _, rfl, ⟨by decide, by decide, by omega, by omega⟩, ?_⟩
    refine for_range (lo := 2) (n := (m - 2).toNat) (fun i σ H' => Ex H H' ∧ Two K H mp qp i H' ∧ ∃ x3 x4 x5 x7 x8 x9 : Option V, σ = [some (.ref a), some (.ref mp), some (.ref qp), x3, x4, x5, none, x7, x8, x9]) ⟨eB, ⟨r0, r1, hm, hq, ⟨ok0, by rw [ns0]; exact Nat.le_refl _⟩, ⟨ok1, by rw [ns1]; exact Nat.le_refl _⟩, ap01⟩, _, _, _, _, _, _, rfl⟩ ?_ ?_
    · rintro i σ C hi ⟨eC, T, x3, x4, x5, x7, x8, x9, rfl⟩
      rw [List.length_map] at mA
      obtain ⟨j, hj, jl⟩ : ∃ j : Nat, (2 : Int) + (i : Int) = j ∧ j < ns.length := ⟨2 + i, by omega, by omega⟩
      rw [hj]
      have hSC := Evl.ex_l eC hS
      repeat walk_at "mst"
      refine k_ixL hSC (atI_nat (j := j) (v := V.int (ns[j]'jl)) (by rw [List.getElem?_map, List.getElem?_eq_getElem jl]; rfl)) ?_
      repeat walk_at "mst"
      refine use_tape fun t H5 nt e5 tp5 => ?_
      repeat walk_at "mst"
      refine use_draw (n := 2) tp5 (by decide) (by decide) fun w H6 w0 w1 k6 tp6 => ?_
      obtain ⟨wi, rfl⟩ : ∃ wi : Nat, w = wi := ⟨w.toNat, by omega⟩
      obtain ⟨xs, ys, r, hm, hq, hx, hy, ok, few, fin2⟩ := T.pick (w := wi) (by omega) nt
      have k56 : Tk t C H6 := (Tk.of e5).trans k6
      have e6 : Ex C H6 := fun c o z => k56 _ _ z (ne_of_none z nt)
      have ok6 := ok.ex e6
      have nr := ok.fresh nt
      repeat walk_at "mst"
      refine k_ixL (k_sq (e6 _ _ hm)) (atI_nat hx) ?_
      repeat walk_at "mst"
      refine k_ixL (k_sq (e6 _ _ hq)) (atI_nat hy) ?_
      repeat walk_at "mst"
      refine use_deed ⟨ok6.M, ok6.O, tp6, nr, ok.n1⟩ (by omega) fun H7 GS ns' k7 M O l7 => ?_
      have D7 : Dk r t C H7 := fun c o z n1 n2 n3 n4 n5 => k7 c o (k56 c o z n5) n1 n2 n3 n4 n5
      have T7 := fin2 H7 GS ns' ⟨M, O, ok.n1, ok.nm, ok.nq, ok.h0⟩ (by omega) D7
      have hm7 := D7 _ _ hm ok.nm.1.symm ok.nm.2.1.symm ok.nm.2.2.1.symm ok.nm.2.2.2.symm (ne_of_none hm nt)
      have hq7 := D7 _ _ hq ok.nq.1.symm ok.nq.2.1.symm ok.nq.2.2.1.symm ok.nq.2.2.2.symm (ne_of_none hq nt)
      have e7 : Ex H H7 := fun c o z => D7 c o (eC _ _ z) (ne_of_none z ok.h0.1) (ne_of_none z ok.h0.2.1) (ne_of_none z ok.h0.2.2.1) (ne_of_none z ok.h0.2.2.2) (ne_of_none (eC _ _ z) nt)
      repeat walk_at "mst"
      refine k_ixL (k_sq hm7) (atI_nat hx) ?_
      repeat walk_at "mst"
      refine k_ixL (k_sq hq7) (atI_nat hy) ?_
      repeat walk_at "mst"
      refine use_is73 M O fun H8 e8 => ?_
      repeat walk_at "mst"
      exact ⟨e7.trans e8, T7.ex e8, _, _, _, _, _, _, rfl⟩
    · rintro σ C ⟨eC, T, x3, x4, x5, x7, x8, x9, rfl⟩
      obtain ⟨r0, r1, hm, hq, ⟨k0, l0⟩, ⟨k1, l1⟩, ap⟩ := T
      repeat walk_at "mst"
      refine k_ixL (k_sq hm) (atI_nat (j := 0) rfl) ?_
      repeat walk_at "mst"
      refine k_ixL (k_sq hq) (atI_nat (j := 0) rfl) ?_
      repeat walk_at "mst"
      refine use_is73 k0.M k0.O fun H8 e8 => ?_
      repeat walk_at "mst"
      refine k_ixL (k_sq (e8 _ _ hm)) (atI_nat (j := 1) rfl) ?_
      repeat walk_at "mst"
      refine k_ixL (k_sq (e8 _ _ hq)) (atI_nat (j := 1) rfl) ?_
      repeat walk_at "mst"
      refine use_is73 (k1.M.ex e8) (k1.O.ex e8) fun H9 e9 => ?_
      repeat walk_at "mst"
      exact fin _ _ rfl
open Hd
theorem hu65R {A : Around} {k : Nat} (hr : Room k A) : A.units + 65 < cLine := by have := hr.un; omega
abbrev R_law_tape : List Str := ["cell", "k"]
theorem sc_law_tape : FnScope R_law_tape ["cell", "k"] (defScope s_law_tape) := ⟨rfl, rfl, rfl, by decide +kernel, rfl, by decide +kernel, by decide +kernel⟩
abbrev R_is_board : List Str := ["thing"]
theorem sc_is_board : FnScope R_is_board ["thing"] (defScope s_is_board) := ⟨rfl, rfl, rfl, by decide +kernel, rfl, by decide +kernel, by decide +kernel⟩
abbrev R_Meeting_d_init : List Str := ["self", "boards", "board"]
theorem sc_Meeting_d_init : FnScope R_Meeting_d_init ["self", "boards"] (defScope s_Meeting_d_init) := ⟨rfl, rfl, rfl, by decide +kernel, rfl, by decide +kernel, by decide +kernel⟩
abbrev R_law_draw : List Str := ["tape", "size", "got"]
theorem sc_law_draw : FnScope R_law_draw ["tape", "size"] (defScope s_law_draw) := ⟨rfl, rfl, rfl, by decide +kernel, rfl, by decide +kernel, by decide +kernel⟩
abbrev R_is_whole : List Str := ["thing", "least", "most"]
theorem sc_is_whole : FnScope R_is_whole ["thing", "least", "most"] (defScope s_is_whole) := ⟨rfl, rfl, rfl, by decide +kernel, rfl, by decide +kernel, by decide +kernel⟩
abbrev R_Heaps_d_init : List Str := ["self", "sizes", "size"]
theorem sc_Heaps_d_init : FnScope R_Heaps_d_init ["self", "sizes"] (defScope s_Heaps_d_init) := ⟨rfl, rfl, rfl, by decide +kernel, rfl, by decide +kernel, by decide +kernel⟩
abbrev R_law_heaps : List Str := ["tape", "k"]
theorem sc_law_heaps : FnScope R_law_heaps ["tape"] (defScope s_law_heaps) := ⟨rfl, rfl, rfl, by decide +kernel, rfl, by decide +kernel, by decide +kernel⟩
abbrev R_check_edge : List Str := ["edge", "knot"]
theorem sc_check_edge : FnScope R_check_edge ["edge"] (defScope s_check_edge) := ⟨rfl, rfl, rfl, by decide +kernel, rfl, by decide +kernel, by decide +kernel⟩
abbrev R_reached : List Str := ["edges", "knots", "found", "knot", "grown", "one", "other", "_"]
theorem sc_reached : FnScope R_reached ["edges", "knots"] (defScope s_reached) := ⟨rfl, rfl, rfl, by decide +kernel, rfl, by decide +kernel, by decide +kernel⟩
abbrev R_Hedge_d_init : List Str := ["self", "edges", "edge", "held"]
theorem sc_Hedge_d_init : FnScope R_Hedge_d_init ["self", "edges"] (defScope s_Hedge_d_init) := ⟨rfl, rfl, rfl, by decide +kernel, rfl, by decide +kernel, by decide +kernel⟩
abbrev R_law_hedge : List Str := ["tape", "edges", "k", "colour"]
theorem sc_law_hedge : FnScope R_law_hedge ["tape"] (defScope s_law_hedge) := ⟨rfl, rfl, rfl, by decide +kernel, rfl, by decide +kernel, by decide +kernel⟩
abbrev R_Floor_d_init : List Str := ["self", "rows", "row", "cell"]
theorem sc_Floor_d_init : FnScope R_Floor_d_init ["self", "rows"] (defScope s_Floor_d_init) := ⟨rfl, rfl, rfl, by decide +kernel, rfl, by decide +kernel, by decide +kernel⟩
abbrev R_law_floor : List Str := ["tape", "wide", "rows", "k", "j"]
theorem sc_law_floor : FnScope R_law_floor ["tape"] (defScope s_law_floor) := ⟨rfl, rfl, rfl, by decide +kernel, rfl, by decide +kernel, by decide +kernel⟩
abbrev R_Frogs_d_init : List Str := ["self", "line", "sign"]
theorem sc_Frogs_d_init : FnScope R_Frogs_d_init ["self", "line"] (defScope s_Frogs_d_init) := ⟨rfl, rfl, rfl, by decide +kernel, rfl, by decide +kernel, by decide +kernel⟩
abbrev R_law_frogs : List Str := ["tape", "k"]
theorem sc_law_frogs : FnScope R_law_frogs ["tape"] (defScope s_law_frogs) := ⟨rfl, rfl, rfl, by decide +kernel, rfl, by decide +kernel, by decide +kernel⟩
abbrev R_check_cake : List Str := ["cake", "length"]
theorem sc_check_cake : FnScope R_check_cake ["cake"] (defScope s_check_cake) := ⟨rfl, rfl, rfl, by decide +kernel, rfl, by decide +kernel, by decide +kernel⟩
abbrev R_Cakes_d_init : List Str := ["self", "cakes", "cake", "rows", "columns"]
theorem sc_Cakes_d_init : FnScope R_Cakes_d_init ["self", "cakes"] (defScope s_Cakes_d_init) := ⟨rfl, rfl, rfl, by decide +kernel, rfl, by decide +kernel, by decide +kernel⟩
abbrev R_law_cakes : List Str := ["tape", "cakes", "k"]
theorem sc_law_cakes : FnScope R_law_cakes ["tape"] (defScope s_law_cakes) := ⟨rfl, rfl, rfl, by decide +kernel, rfl, by decide +kernel, by decide +kernel⟩
abbrev R_check_row : List Str := ["row", "at", "count", "places", "least", "place"]
theorem sc_check_row : FnScope R_check_row ["row", "at", "count"] (defScope s_check_row) := ⟨rfl, rfl, rfl, by decide +kernel, rfl, by decide +kernel, by decide +kernel⟩
abbrev R_Table_d_init : List Str := ["self", "rows", "place", "at", "row"]
theorem sc_Table_d_init : FnScope R_Table_d_init ["self", "rows", "place"] (defScope s_Table_d_init) := ⟨rfl, rfl, rfl, by decide +kernel, rfl, by decide +kernel, by decide +kernel⟩
abbrev R_law_table : List Str := ["tape", "many", "rows", "k", "sides", "side", "goal"]
theorem sc_law_table : FnScope R_law_table ["tape"] (defScope s_law_table) := ⟨rfl, rfl, rfl, by decide +kernel, rfl, by decide +kernel, by decide +kernel⟩
abbrev R_law_board : List Str := ["tape", "kind"]
theorem sc_law_board : FnScope R_law_board ["tape"] (defScope s_law_board) := ⟨rfl, rfl, rfl, by decide +kernel, rfl, by decide +kernel, by decide +kernel⟩
abbrev R_Match_d_init : List Str := ["self", "meeting", "first"]
theorem sc_Match_d_init : FnScope R_Match_d_init ["self", "meeting", "first"] (defScope s_Match_d_init) := ⟨rfl, rfl, rfl, by decide +kernel, rfl, by decide +kernel, by decide +kernel⟩
abbrev R_law_bad_side : List Str := ["meeting", "first", "e"]
theorem sc_law_bad_side : FnScope R_law_bad_side ["meeting", "first"] (defScope s_law_bad_side) := ⟨rfl, rfl, rfl, by decide +kernel, rfl, by decide +kernel, by decide +kernel⟩
abbrev R_Heaps_m_moves : List Str := ["self", "side", "found", "place", "size", "left"]
theorem sc_Heaps_m_moves : FnScope R_Heaps_m_moves ["self", "side"] (defScope s_Heaps_m_moves) := ⟨rfl, rfl, rfl, by decide +kernel, rfl, by decide +kernel, by decide +kernel⟩
abbrev R_Hedge_m_value : List Str := ["self"]
theorem sc_Hedge_m_value : FnScope R_Hedge_m_value ["self"] (defScope s_Hedge_m_value) := ⟨rfl, rfl, rfl, by decide +kernel, rfl, by decide +kernel, by decide +kernel⟩
abbrev R_Hedge_m_moves : List Str := ["self", "side", "found", "at", "edge", "board"]
theorem sc_Hedge_m_moves : FnScope R_Hedge_m_moves ["self", "side"] (defScope s_Hedge_m_moves) := ⟨rfl, rfl, rfl, by decide +kernel, rfl, by decide +kernel, by decide +kernel⟩
abbrev R_Floor_p_cells : List Str := ["self", "row", "column"]
theorem sc_Floor_p_cells : FnScope R_Floor_p_cells ["self"] (defScope s_Floor_p_cells) := ⟨rfl, rfl, rfl, by decide +kernel, rfl, by decide +kernel, by decide +kernel⟩
abbrev R_Floor_p_is_free : List Str := ["self", "row", "column"]
theorem sc_Floor_p_is_free : FnScope R_Floor_p_is_free ["self", "row", "column"] (defScope s_Floor_p_is_free) := ⟨rfl, rfl, rfl, by decide +kernel, rfl, by decide +kernel, by decide +kernel⟩
abbrev R_Floor_p_covered : List Str := ["self", "cells", "rows", "row", "column"]
theorem sc_Floor_p_covered : FnScope R_Floor_p_covered ["self", "cells"] (defScope s_Floor_p_covered) := ⟨rfl, rfl, rfl, by decide +kernel, rfl, by decide +kernel, by decide +kernel⟩
abbrev R_Floor_m_moves : List Str := ["self", "side", "down", "right", "found", "row", "column", "second"]
theorem sc_Floor_m_moves : FnScope R_Floor_m_moves ["self", "side"] (defScope s_Floor_m_moves) := ⟨rfl, rfl, rfl, by decide +kernel, rfl, by decide +kernel, by decide +kernel⟩
abbrev R_Frogs_p_sign : List Str := ["self", "place"]
theorem sc_Frogs_p_sign : FnScope R_Frogs_p_sign ["self", "place"] (defScope s_Frogs_p_sign) := ⟨rfl, rfl, rfl, by decide +kernel, rfl, by decide +kernel, by decide +kernel⟩
abbrev R_Frogs_p_target : List Str := ["self", "place", "jumped", "step", "beside"]
theorem sc_Frogs_p_target : FnScope R_Frogs_p_target ["self", "place", "jumped", "step"] (defScope s_Frogs_p_target) := ⟨rfl, rfl, rfl, by decide +kernel, rfl, by decide +kernel, by decide +kernel⟩
abbrev R_Frogs_p_moved : List Str := ["self", "place", "target", "signs"]
theorem sc_Frogs_p_moved : FnScope R_Frogs_p_moved ["self", "place", "target"] (defScope s_Frogs_p_moved) := ⟨rfl, rfl, rfl, by decide +kernel, rfl, by decide +kernel, by decide +kernel⟩
abbrev R_Frogs_m_moves : List Str := ["self", "side", "mover", "jumped", "step", "found", "place", "sign", "target"]
theorem sc_Frogs_m_moves : FnScope R_Frogs_m_moves ["self", "side"] (defScope s_Frogs_m_moves) := ⟨rfl, rfl, rfl, by decide +kernel, rfl, by decide +kernel, by decide +kernel⟩
abbrev R_cuts : List Str := ["cake", "side", "rows", "columns", "first"]
theorem sc_cuts : FnScope R_cuts ["cake", "side"] (defScope s_cuts) := ⟨rfl, rfl, rfl, by decide +kernel, rfl, by decide +kernel, by decide +kernel⟩
abbrev R_Cakes_m_moves : List Str := ["self", "side", "found", "place", "cake", "first", "second"]
theorem sc_Cakes_m_moves : FnScope R_Cakes_m_moves ["self", "side"] (defScope s_Cakes_m_moves) := ⟨rfl, rfl, rfl, by decide +kernel, rfl, by decide +kernel, by decide +kernel⟩
abbrev R_Table_p_moved : List Str := ["self", "place", "board"]
theorem sc_Table_p_moved : FnScope R_Table_p_moved ["self", "place"] (defScope s_Table_p_moved) := ⟨rfl, rfl, rfl, by decide +kernel, rfl, by decide +kernel, by decide +kernel⟩
abbrev R_Table_m_moves : List Str := ["self", "side", "lefts", "rights", "places", "place"]
theorem sc_Table_m_moves : FnScope R_Table_m_moves ["self", "side"] (defScope s_Table_m_moves) := ⟨rfl, rfl, rfl, by decide +kernel, rfl, by decide +kernel, by decide +kernel⟩
abbrev R_Meeting_m_moves : List Str := ["self", "side", "found", "place", "board", "other"]
theorem sc_Meeting_m_moves : FnScope R_Meeting_m_moves ["self", "side"] (defScope s_Meeting_m_moves) := ⟨rfl, rfl, rfl, by decide +kernel, rfl, by decide +kernel, by decide +kernel⟩
abbrev R_Match_m_back : List Str := ["self"]
theorem sc_Match_m_back : FnScope R_Match_m_back ["self"] (defScope s_Match_m_back) := ⟨rfl, rfl, rfl, by decide +kernel, rfl, by decide +kernel, by decide +kernel⟩
abbrev R_Match_m_meeting : List Str := ["self"]
theorem sc_Match_m_meeting : FnScope R_Match_m_meeting ["self"] (defScope s_Match_m_meeting) := ⟨rfl, rfl, rfl, by decide +kernel, rfl, by decide +kernel, by decide +kernel⟩
abbrev R_other_side : List Str := ["side"]
theorem sc_other_side : FnScope R_other_side ["side"] (defScope s_other_side) := ⟨rfl, rfl, rfl, by decide +kernel, rfl, by decide +kernel, by decide +kernel⟩
abbrev R_Match_m_turn : List Str := ["self"]
theorem sc_Match_m_turn : FnScope R_Match_m_turn ["self"] (defScope s_Match_m_turn) := ⟨rfl, rfl, rfl, by decide +kernel, rfl, by decide +kernel, by decide +kernel⟩
abbrev R_Match_m_moves : List Str := ["self"]
theorem sc_Match_m_moves : FnScope R_Match_m_moves ["self"] (defScope s_Match_m_moves) := ⟨rfl, rfl, rfl, by decide +kernel, rfl, by decide +kernel, by decide +kernel⟩
abbrev R_Meeting_m_moved : List Str := ["self", "place", "board", "boards"]
theorem sc_Meeting_m_moved : FnScope R_Meeting_m_moved ["self", "place", "board"] (defScope s_Meeting_m_moved) := ⟨rfl, rfl, rfl, by decide +kernel, rfl, by decide +kernel, by decide +kernel⟩
abbrev R_Match_m_play : List Str := ["self", "index", "moves", "place", "board"]
theorem sc_Match_m_play : FnScope R_Match_m_play ["self", "index"] (defScope s_Match_m_play) := ⟨rfl, rfl, rfl, by decide +kernel, rfl, by decide +kernel, by decide +kernel⟩
abbrev R_law_no_move : List Str := ["match", "index", "e"]
theorem sc_law_no_move : FnScope R_law_no_move ["match", "index"] (defScope s_law_no_move) := ⟨rfl, rfl, rfl, by decide +kernel, rfl, by decide +kernel, by decide +kernel⟩
abbrev R_Meeting_m_boards : List Str := ["self"]
theorem sc_Meeting_m_boards : FnScope R_Meeting_m_boards ["self"] (defScope s_Meeting_m_boards) := ⟨rfl, rfl, rfl, by decide +kernel, rfl, by decide +kernel, by decide +kernel⟩
abbrev R_law_deed : List Str := ["match", "model", "tape", "side", "meeting", "moves", "kind", "index", "boards"]
theorem sc_law_deed : FnScope R_law_deed ["match", "model", "tape"] (defScope s_law_deed) := ⟨rfl, rfl, rfl, by decide +kernel, rfl, by decide +kernel, by decide +kernel⟩
abbrev R_Heaps_m_value : List Str := ["self"]
theorem sc_Heaps_m_value : FnScope R_Heaps_m_value ["self"] (defScope s_Heaps_m_value) := ⟨rfl, rfl, rfl, by decide +kernel, rfl, by decide +kernel, by decide +kernel⟩
abbrev R_Floor_m_value : List Str := ["self"]
theorem sc_Floor_m_value : FnScope R_Floor_m_value ["self"] (defScope s_Floor_m_value) := ⟨rfl, rfl, rfl, by decide +kernel, rfl, by decide +kernel, by decide +kernel⟩
abbrev R_Frogs_m_value : List Str := ["self"]
theorem sc_Frogs_m_value : FnScope R_Frogs_m_value ["self"] (defScope s_Frogs_m_value) := ⟨rfl, rfl, rfl, by decide +kernel, rfl, by decide +kernel, by decide +kernel⟩
abbrev R_Cakes_m_value : List Str := ["self"]
theorem sc_Cakes_m_value : FnScope R_Cakes_m_value ["self"] (defScope s_Cakes_m_value) := ⟨rfl, rfl, rfl, by decide +kernel, rfl, by decide +kernel, by decide +kernel⟩
abbrev R_Table_m_value : List Str := ["self"]
theorem sc_Table_m_value : FnScope R_Table_m_value ["self"] (defScope s_Table_m_value) := ⟨rfl, rfl, rfl, by decide +kernel, rfl, by decide +kernel, by decide +kernel⟩
abbrev R_Meeting_m_value : List Str := ["self", "board"]
theorem sc_Meeting_m_value : FnScope R_Meeting_m_value ["self"] (defScope s_Meeting_m_value) := ⟨rfl, rfl, rfl, by decide +kernel, rfl, by decide +kernel, by decide +kernel⟩
abbrev R_Match_m_record : List Str := ["self"]
theorem sc_Match_m_record : FnScope R_Match_m_record ["self"] (defScope s_Match_m_record) := ⟨rfl, rfl, rfl, by decide +kernel, rfl, by decide +kernel, by decide +kernel⟩
abbrev R_Match_m_winner : List Str := ["self"]
theorem sc_Match_m_winner : FnScope R_Match_m_winner ["self"] (defScope s_Match_m_winner) := ⟨rfl, rfl, rfl, by decide +kernel, rfl, by decide +kernel, by decide +kernel⟩
abbrev R_law_is : List Str := ["match", "model", "side", "meeting", "due", "place", "board", "turn", "told", "record", "winner"]
theorem sc_law_is : FnScope R_law_is ["match", "model"] (defScope s_law_is) := ⟨rfl, rfl, rfl, by decide +kernel, rfl, by decide +kernel, by decide +kernel⟩
abbrev R_law : List Str := ["script", "matches", "models", "k", "tape", "meeting", "j", "first", "strange", "which"]
theorem sc_law : FnScope R_law ["script"] (defScope s_law) := ⟨rfl, rfl, rfl, by decide +kernel, rfl, by decide +kernel, by decide +kernel⟩
structure Txt (w : World) (K : PySem.W.Frag) (mg : Str → Option Value) : Prop where
  kd_CUTS : ∃ es n, KDict K w (He.ga K "CUTS") es n
  kd_MOVERS : ∃ es n, KDict K w (He.ga K "MOVERS") es n
  kd_SHAPES : ∃ es n, KDict K w (He.ga K "SHAPES") es n
  g_BadText : mg "BadText" = some (.ref (He.ga K "BadText"))
  g_BadValue : mg "BadValue" = some (.ref (He.ga K "BadValue"))
  g_COLOURS : mg "COLOURS" = some (.ref (He.ga K "COLOURS"))
  g_CUTS : mg "CUTS" = some (.ref (He.ga K "CUTS"))
  g_Cakes : mg "Cakes" = some (.ref (He.ga K "Cakes"))
  g_Floor : mg "Floor" = some (.ref (He.ga K "Floor"))
  g_Frogs : mg "Frogs" = some (.ref (He.ga K "Frogs"))
  g_Heaps : mg "Heaps" = some (.ref (He.ga K "Heaps"))
  g_Hedge : mg "Hedge" = some (.ref (He.ga K "Hedge"))
  g_MOVERS : mg "MOVERS" = some (.ref (He.ga K "MOVERS"))
  g_Match : mg "Match" = some (.ref (He.ga K "Match"))
  g_Meeting : mg "Meeting" = some (.ref (He.ga K "Meeting"))
  g_NoMove : mg "NoMove" = some (.ref (He.ga K "NoMove"))
  g_PlayError : mg "PlayError" = some (.ref (He.ga K "PlayError"))
  g_SHAPES : mg "SHAPES" = some (.ref (He.ga K "SHAPES"))
  g_SIDES : mg "SIDES" = some (.ref (He.ga K "SIDES"))
  g_SIGNS : mg "SIGNS" = some (.ref (He.ga K "SIGNS"))
  g_Table : mg "Table" = some (.ref (He.ga K "Table"))
  g_Unknown : mg "Unknown" = some (.ref (He.ga K "Unknown"))
  g__check_cake : mg "_check_cake" = some (.ref (He.ga K "_check_cake"))
  g__check_edge : mg "_check_edge" = some (.ref (He.ga K "_check_edge"))
  g__check_row : mg "_check_row" = some (.ref (He.ga K "_check_row"))
  g__cuts : mg "_cuts" = some (.ref (He.ga K "_cuts"))
  g__law_bad_side : mg "_law_bad_side" = some (.ref (He.ga K "_law_bad_side"))
  g__law_board : mg "_law_board" = some (.ref (He.ga K "_law_board"))
  g__law_cakes : mg "_law_cakes" = some (.ref (He.ga K "_law_cakes"))
  g__law_deed : mg "_law_deed" = some (.ref (He.ga K "_law_deed"))
  g__law_draw : mg "_law_draw" = some (.ref (He.ga K "_law_draw"))
  g__law_floor : mg "_law_floor" = some (.ref (He.ga K "_law_floor"))
  g__law_frogs : mg "_law_frogs" = some (.ref (He.ga K "_law_frogs"))
  g__law_heaps : mg "_law_heaps" = some (.ref (He.ga K "_law_heaps"))
  g__law_hedge : mg "_law_hedge" = some (.ref (He.ga K "_law_hedge"))
  g__law_is : mg "_law_is" = some (.ref (He.ga K "_law_is"))
  g__law_no_move : mg "_law_no_move" = some (.ref (He.ga K "_law_no_move"))
  g__law_table : mg "_law_table" = some (.ref (He.ga K "_law_table"))
  g__law_tape : mg "_law_tape" = some (.ref (He.ga K "_law_tape"))
  g__reached : mg "_reached" = some (.ref (He.ga K "_reached"))
  g_is_board : mg "is_board" = some (.ref (He.ga K "is_board"))
  g_is_whole : mg "is_whole" = some (.ref (He.ga K "is_whole"))
  g_law : mg "law" = some (.ref (He.ga K "law"))
  g_other_side : mg "other_side" = some (.ref (He.ga K "other_side"))
  z_ValueError : mg "ValueError" = none
  z_all : mg "all" = none
  z_enumerate : mg "enumerate" = none
  z_int : mg "int" = none
  z_isinstance : mg "isinstance" = none
  z_len : mg "len" = none
  z_list : mg "list" = none
  z_min : mg "min" = none
  z_range : mg "range" = none
  z_str : mg "str" = none
  z_sum : mg "sum" = none
  z_tuple : mg "tuple" = none
  z_type : mg "type" = none
  tx_COLOURS : ∀ H, SqT K H (He.ga K "COLOURS") [V.str "blue", V.str "green", V.str "red"]
  c_COVERED : ∃ t, mg "COVERED" = some (.str "#" t)
  tk_CUTS_left : PySem.W.nsIn K (He.ga K "CUTS") "left" = some (some (.ref (kdA K "CUTS" "left"))) ∧ ∀ H, SqT K H (kdA K "CUTS" "left") [V.str "blue", V.str "green"]
  tk_CUTS_right : PySem.W.nsIn K (He.ga K "CUTS") "right" = some (some (.ref (kdA K "CUTS" "right"))) ∧ ∀ H, SqT K H (kdA K "CUTS" "right") [V.str "red", V.str "green"]
  c_FREE_floor : ∃ t, mg "FREE_floor" = some (.str "." t)
  c_FREE_frogs : ∃ t, mg "FREE_frogs" = some (.str "." t)
  c_GROUND : ∃ t, mg "GROUND" = some (.int (0) t)
  c_MOST_BOARDS : ∃ t, mg "MOST_BOARDS" = some (.int (8) t)
  c_MOST_CELLS : ∃ t, mg "MOST_CELLS" = some (.int (6) t)
  c_MOST_EDGES : ∃ t, mg "MOST_EDGES" = some (.int (16) t)
  c_MOST_HEAPS : ∃ t, mg "MOST_HEAPS" = some (.int (8) t)
  c_MOST_KNOT : ∃ t, mg "MOST_KNOT" = some (.int (15) t)
  c_MOST_LENGTH : ∃ t, mg "MOST_LENGTH" = some (.int (12) t)
  c_MOST_PLACES : ∃ t, mg "MOST_PLACES" = some (.int (12) t)
  c_MOST_ROWS : ∃ t, mg "MOST_ROWS" = some (.int (40) t)
  c_MOST_SIZE : ∃ t, mg "MOST_SIZE" = some (.int (30) t)
  c_MOST_SQUARES : ∃ t, mg "MOST_SQUARES" = some (.int (144) t)
  tk_MOVERS_left : PySem.W.nsIn K (He.ga K "MOVERS") "left" = some (some (.ref (kdA K "MOVERS" "left"))) ∧ ∀ H, SqT K H (kdA K "MOVERS" "left") [V.str "T", V.str "F", V.int (1)]
  tk_MOVERS_right : PySem.W.nsIn K (He.ga K "MOVERS") "right" = some (some (.ref (kdA K "MOVERS" "right"))) ∧ ∀ H, SqT K H (kdA K "MOVERS" "right") [V.str "F", V.str "T", V.int (-1)]
  tk_SHAPES_left : PySem.W.nsIn K (He.ga K "SHAPES") "left" = some (some (.ref (kdA K "SHAPES" "left"))) ∧ ∀ H, SqT K H (kdA K "SHAPES" "left") [V.int (1), V.int (0)]
  tk_SHAPES_right : PySem.W.nsIn K (He.ga K "SHAPES") "right" = some (some (.ref (kdA K "SHAPES" "right"))) ∧ ∀ H, SqT K H (kdA K "SHAPES" "right") [V.int (0), V.int (1)]
  tx_SIDES : ∀ H, SqT K H (He.ga K "SIDES") [V.str "left", V.str "right"]
  tx_SIGNS : ∀ H, SqT K H (He.ga K "SIGNS") [V.str "T", V.str "F", V.str "."]
  cl_Cakes : Cls K (He.ga K "Cakes")
  cl_Floor : Cls K (He.ga K "Floor")
  cl_Frogs : Cls K (He.ga K "Frogs")
  cl_Heaps : Cls K (He.ga K "Heaps")
  cl_Hedge : Cls K (He.ga K "Hedge")
  cl_Match : Cls K (He.ga K "Match")
  cl_Meeting : Cls K (He.ga K "Meeting")
  cl_Table : Cls K (He.ga K "Table")
  x_BadValue : PySem.W.excIn K (He.ga K "BadValue") He.veBase "ValueError.__new__" = true ∧ PySem.W.keepIn K (.ref (He.ga K "BadValue")) = true ∧ PySem.W.subIn K (.ref (He.ga K "BadValue")) (.type "BaseException") = some true ∧ PySem.W.typeIn K (.ref (He.ga K "BadValue")) = some (.type "type")
  x_NoMove : PySem.W.excIn K (He.ga K "NoMove") He.veBase "ValueError.__new__" = true ∧ PySem.W.keepIn K (.ref (He.ga K "NoMove")) = true ∧ PySem.W.subIn K (.ref (He.ga K "NoMove")) (.type "BaseException") = some true ∧ PySem.W.typeIn K (.ref (He.ga K "NoMove")) = some (.type "type")
  xc_BadValue : ExcC K (He.ga K "BadValue")
  xc_NoMove : ExcC K (He.ga K "NoMove")
  em_BadValue_BadValue : PySem.W.exmOne K (.ref (He.ga K "BadValue")) (.ref (He.ga K "BadValue")) = some true
  em_NoMove_NoMove : PySem.W.exmOne K (.ref (He.ga K "NoMove")) (.ref (He.ga K "NoMove")) = some true
  ki_BadValue_NoMove : PySem.W.kitOne K (.ref (He.ga K "BadValue")) (.ref (He.ga K "NoMove")) = some false
  ki_BadValue_PlayError : PySem.W.kitOne K (.ref (He.ga K "BadValue")) (.ref (He.ga K "PlayError")) = some true
  ki_NoMove_BadText : PySem.W.kitOne K (.ref (He.ga K "NoMove")) (.ref (He.ga K "BadText")) = some false
  ki_NoMove_BadValue : PySem.W.kitOne K (.ref (He.ga K "NoMove")) (.ref (He.ga K "BadValue")) = some false
  ki_NoMove_PlayError : PySem.W.kitOne K (.ref (He.ga K "NoMove")) (.ref (He.ga K "PlayError")) = some true
  ki_NoMove_Unknown : PySem.W.kitOne K (.ref (He.ga K "NoMove")) (.ref (He.ga K "Unknown")) = some false
  ki_NoMove_ValueError : PySem.W.kitOne K (.ref (He.ga K "NoMove")) (.type "ValueError") = some true
  mt_Cakes_moves : Meth K (He.ga K "Cakes") "moves" (He.ma K (He.ga K "Cakes") "moves")
  mt_Cakes_value : Meth K (He.ga K "Cakes") "value" (He.ma K (He.ga K "Cakes") "value")
  mt_Floor__cells : Meth K (He.ga K "Floor") "_cells" (He.ma K (He.ga K "Floor") "_cells")
  mt_Floor__covered : Meth K (He.ga K "Floor") "_covered" (He.ma K (He.ga K "Floor") "_covered")
  mt_Floor__is_free : Meth K (He.ga K "Floor") "_is_free" (He.ma K (He.ga K "Floor") "_is_free")
  mt_Floor_moves : Meth K (He.ga K "Floor") "moves" (He.ma K (He.ga K "Floor") "moves")
  mt_Floor_value : Meth K (He.ga K "Floor") "value" (He.ma K (He.ga K "Floor") "value")
  mt_Frogs__moved : Meth K (He.ga K "Frogs") "_moved" (He.ma K (He.ga K "Frogs") "_moved")
  mt_Frogs__sign : Meth K (He.ga K "Frogs") "_sign" (He.ma K (He.ga K "Frogs") "_sign")
  mt_Frogs__target : Meth K (He.ga K "Frogs") "_target" (He.ma K (He.ga K "Frogs") "_target")
  mt_Frogs_moves : Meth K (He.ga K "Frogs") "moves" (He.ma K (He.ga K "Frogs") "moves")
  mt_Frogs_value : Meth K (He.ga K "Frogs") "value" (He.ma K (He.ga K "Frogs") "value")
  mt_Heaps_moves : Meth K (He.ga K "Heaps") "moves" (He.ma K (He.ga K "Heaps") "moves")
  mt_Heaps_value : Meth K (He.ga K "Heaps") "value" (He.ma K (He.ga K "Heaps") "value")
  mt_Hedge_moves : Meth K (He.ga K "Hedge") "moves" (He.ma K (He.ga K "Hedge") "moves")
  mt_Hedge_value : Meth K (He.ga K "Hedge") "value" (He.ma K (He.ga K "Hedge") "value")
  mt_Match_back : Meth K (He.ga K "Match") "back" (He.ma K (He.ga K "Match") "back")
  mt_Match_moves : Meth K (He.ga K "Match") "moves" (He.ma K (He.ga K "Match") "moves")
  mt_Match_play : Meth K (He.ga K "Match") "play" (He.ma K (He.ga K "Match") "play")
  mt_Match_record : Meth K (He.ga K "Match") "record" (He.ma K (He.ga K "Match") "record")
  mt_Match_winner : Meth K (He.ga K "Match") "winner" (He.ma K (He.ga K "Match") "winner")
  mt_Meeting_boards : Meth K (He.ga K "Meeting") "boards" (He.ma K (He.ga K "Meeting") "boards")
  mt_Meeting_moved : Meth K (He.ga K "Meeting") "moved" (He.ma K (He.ga K "Meeting") "moved")
  mt_Meeting_moves : Meth K (He.ga K "Meeting") "moves" (He.ma K (He.ga K "Meeting") "moves")
  mt_Meeting_value : Meth K (He.ga K "Meeting") "value" (He.ma K (He.ga K "Meeting") "value")
  mt_Table__moved : Meth K (He.ga K "Table") "_moved" (He.ma K (He.ga K "Table") "_moved")
  mt_Table_moves : Meth K (He.ga K "Table") "moves" (He.ma K (He.ga K "Table") "moves")
  mt_Table_value : Meth K (He.ga K "Table") "value" (He.ma K (He.ga K "Table") "value")
  mk_Cakes : Mk K (He.ga K "Cakes") (He.ma K (He.ga K "Cakes") "__init__")
  mk_Floor : Mk K (He.ga K "Floor") (He.ma K (He.ga K "Floor") "__init__")
  mk_Frogs : Mk K (He.ga K "Frogs") (He.ma K (He.ga K "Frogs") "__init__")
  mk_Heaps : Mk K (He.ga K "Heaps") (He.ma K (He.ga K "Heaps") "__init__")
  mk_Hedge : Mk K (He.ga K "Hedge") (He.ma K (He.ga K "Hedge") "__init__")
  mk_Match : Mk K (He.ga K "Match") (He.ma K (He.ga K "Match") "__init__")
  mk_Meeting : Mk K (He.ga K "Meeting") (He.ma K (He.ga K "Meeting") "__init__")
  mk_Table : Mk K (He.ga K "Table") (He.ma K (He.ga K "Table") "__init__")
  ne_Meeting_Cakes : He.ga K "Meeting" ≠ He.ga K "Cakes"
  ne_Meeting_Floor : He.ga K "Meeting" ≠ He.ga K "Floor"
  ne_Meeting_Frogs : He.ga K "Meeting" ≠ He.ga K "Frogs"
  ne_Meeting_Heaps : He.ga K "Meeting" ≠ He.ga K "Heaps"
  ne_Meeting_Hedge : He.ga K "Meeting" ≠ He.ga K "Hedge"
  ne_Meeting_Table : He.ga K "Meeting" ≠ He.ga K "Table"
  na_Cakes__cakes : NoAttr K (He.ga K "Cakes") "_cakes"
  na_Floor__rows : NoAttr K (He.ga K "Floor") "_rows"
  na_Frogs__line : NoAttr K (He.ga K "Frogs") "_line"
  na_Heaps__sizes : NoAttr K (He.ga K "Heaps") "_sizes"
  na_Hedge__edges : NoAttr K (He.ga K "Hedge") "_edges"
  na_Match__first : NoAttr K (He.ga K "Match") "_first"
  na_Match__indexes : NoAttr K (He.ga K "Match") "_indexes"
  na_Match__meetings : NoAttr K (He.ga K "Match") "_meetings"
  na_Meeting__boards : NoAttr K (He.ga K "Meeting") "_boards"
  na_Table__place : NoAttr K (He.ga K "Table") "_place"
  na_Table__rows : NoAttr K (He.ga K "Table") "_rows"
  pr_Match_meeting : PropOf K (He.ga K "Match") "meeting" (He.ma K (He.ga K "Match") "meeting") (propG K "Match" "meeting")
  pr_Match_turn : PropOf K (He.ga K "Match") "turn" (He.ma K (He.ga K "Match") "turn") (propG K "Match" "turn")
  d_law_tape : ∃ fd, FunD K "_law_tape" "_law_tape" (defArgs s_law_tape) (defBody s_law_tape) (defScope s_law_tape) [] [] (ad_law_tape K) fd
  d_is_board : ∃ fd, FunD K "is_board" "is_board" (defArgs s_is_board) (defBody s_is_board) (defScope s_is_board) [] [] (ad_is_board K) fd
  d_Meeting_d_init : ∃ fd, FunD K "__init__" "Meeting.__init__" (defArgs s_Meeting_d_init) (defBody s_Meeting_d_init) (defScope s_Meeting_d_init) [] [] (ad_Meeting_d_init K) fd
  d_law_draw : ∃ fd, FunD K "_law_draw" "_law_draw" (defArgs s_law_draw) (defBody s_law_draw) (defScope s_law_draw) [] [] (ad_law_draw K) fd
  d_is_whole : ∃ fd, FunD K "is_whole" "is_whole" (defArgs s_is_whole) (defBody s_is_whole) (defScope s_is_whole) [] [] (ad_is_whole K) fd
  d_Heaps_d_init : ∃ fd, FunD K "__init__" "Heaps.__init__" (defArgs s_Heaps_d_init) (defBody s_Heaps_d_init) (defScope s_Heaps_d_init) [] [] (ad_Heaps_d_init K) fd
  d_law_heaps : ∃ fd, FunD K "_law_heaps" "_law_heaps" (defArgs s_law_heaps) (defBody s_law_heaps) (defScope s_law_heaps) [] [] (ad_law_heaps K) fd
  d_check_edge : ∃ fd, FunD K "_check_edge" "_check_edge" (defArgs s_check_edge) (defBody s_check_edge) (defScope s_check_edge) [] [] (ad_check_edge K) fd
  d_reached : ∃ fd, FunD K "_reached" "_reached" (defArgs s_reached) (defBody s_reached) (defScope s_reached) [] [] (ad_reached K) fd
  d_Hedge_d_init : ∃ fd, FunD K "__init__" "Hedge.__init__" (defArgs s_Hedge_d_init) (defBody s_Hedge_d_init) (defScope s_Hedge_d_init) [] [] (ad_Hedge_d_init K) fd
  d_law_hedge : ∃ fd, FunD K "_law_hedge" "_law_hedge" (defArgs s_law_hedge) (defBody s_law_hedge) (defScope s_law_hedge) [] [] (ad_law_hedge K) fd
  d_Floor_d_init : ∃ fd, FunD K "__init__" "Floor.__init__" (defArgs s_Floor_d_init) (defBody s_Floor_d_init) (defScope s_Floor_d_init) [] [] (ad_Floor_d_init K) fd
  d_law_floor : ∃ fd, FunD K "_law_floor" "_law_floor" (defArgs s_law_floor) (defBody s_law_floor) (defScope s_law_floor) [] [] (ad_law_floor K) fd
  d_Frogs_d_init : ∃ fd, FunD K "__init__" "Frogs.__init__" (defArgs s_Frogs_d_init) (defBody s_Frogs_d_init) (defScope s_Frogs_d_init) [] [] (ad_Frogs_d_init K) fd
  d_law_frogs : ∃ fd, FunD K "_law_frogs" "_law_frogs" (defArgs s_law_frogs) (defBody s_law_frogs) (defScope s_law_frogs) [] [] (ad_law_frogs K) fd
  d_check_cake : ∃ fd, FunD K "_check_cake" "_check_cake" (defArgs s_check_cake) (defBody s_check_cake) (defScope s_check_cake) [] [] (ad_check_cake K) fd
  d_Cakes_d_init : ∃ fd, FunD K "__init__" "Cakes.__init__" (defArgs s_Cakes_d_init) (defBody s_Cakes_d_init) (defScope s_Cakes_d_init) [] [] (ad_Cakes_d_init K) fd
  d_law_cakes : ∃ fd, FunD K "_law_cakes" "_law_cakes" (defArgs s_law_cakes) (defBody s_law_cakes) (defScope s_law_cakes) [] [] (ad_law_cakes K) fd
  d_check_row : ∃ fd, FunD K "_check_row" "_check_row" (defArgs s_check_row) (defBody s_check_row) (defScope s_check_row) [] [] (ad_check_row K) fd
  d_Table_d_init : ∃ fd, FunD K "__init__" "Table.__init__" (defArgs s_Table_d_init) (defBody s_Table_d_init) (defScope s_Table_d_init) [] [] (ad_Table_d_init K) fd
  d_law_table : ∃ fd, FunD K "_law_table" "_law_table" (defArgs s_law_table) (defBody s_law_table) (defScope s_law_table) [] [] (ad_law_table K) fd
  d_law_board : ∃ fd, FunD K "_law_board" "_law_board" (defArgs s_law_board) (defBody s_law_board) (defScope s_law_board) [] [] (ad_law_board K) fd
  d_Match_d_init : ∃ fd, FunD K "__init__" "Match.__init__" (defArgs s_Match_d_init) (defBody s_Match_d_init) (defScope s_Match_d_init) [] [] (ad_Match_d_init K) fd
  d_law_bad_side : ∃ fd, FunD K "_law_bad_side" "_law_bad_side" (defArgs s_law_bad_side) (defBody s_law_bad_side) (defScope s_law_bad_side) [] [] (ad_law_bad_side K) fd
  d_Heaps_m_moves : ∃ fd, FunD K "moves" "Heaps.moves" (defArgs s_Heaps_m_moves) (defBody s_Heaps_m_moves) (defScope s_Heaps_m_moves) [] [] (ad_Heaps_m_moves K) fd
  d_Hedge_m_value : ∃ fd, FunD K "value" "Hedge.value" (defArgs s_Hedge_m_value) (defBody s_Hedge_m_value) (defScope s_Hedge_m_value) [] [] (ad_Hedge_m_value K) fd
  d_Hedge_m_moves : ∃ fd, FunD K "moves" "Hedge.moves" (defArgs s_Hedge_m_moves) (defBody s_Hedge_m_moves) (defScope s_Hedge_m_moves) [] [] (ad_Hedge_m_moves K) fd
  d_Floor_p_cells : ∃ fd, FunD K "_cells" "Floor._cells" (defArgs s_Floor_p_cells) (defBody s_Floor_p_cells) (defScope s_Floor_p_cells) [] [] (ad_Floor_p_cells K) fd
  d_Floor_p_is_free : ∃ fd, FunD K "_is_free" "Floor._is_free" (defArgs s_Floor_p_is_free) (defBody s_Floor_p_is_free) (defScope s_Floor_p_is_free) [] [] (ad_Floor_p_is_free K) fd
  d_Floor_p_covered : ∃ fd, FunD K "_covered" "Floor._covered" (defArgs s_Floor_p_covered) (defBody s_Floor_p_covered) (defScope s_Floor_p_covered) [] [] (ad_Floor_p_covered K) fd
  d_Floor_m_moves : ∃ fd, FunD K "moves" "Floor.moves" (defArgs s_Floor_m_moves) (defBody s_Floor_m_moves) (defScope s_Floor_m_moves) [] [] (ad_Floor_m_moves K) fd
  d_Frogs_p_sign : ∃ fd, FunD K "_sign" "Frogs._sign" (defArgs s_Frogs_p_sign) (defBody s_Frogs_p_sign) (defScope s_Frogs_p_sign) [] [] (ad_Frogs_p_sign K) fd
  d_Frogs_p_target : ∃ fd, FunD K "_target" "Frogs._target" (defArgs s_Frogs_p_target) (defBody s_Frogs_p_target) (defScope s_Frogs_p_target) [] [] (ad_Frogs_p_target K) fd
  d_Frogs_p_moved : ∃ fd, FunD K "_moved" "Frogs._moved" (defArgs s_Frogs_p_moved) (defBody s_Frogs_p_moved) (defScope s_Frogs_p_moved) [] [] (ad_Frogs_p_moved K) fd
  d_Frogs_m_moves : ∃ fd, FunD K "moves" "Frogs.moves" (defArgs s_Frogs_m_moves) (defBody s_Frogs_m_moves) (defScope s_Frogs_m_moves) [] [] (ad_Frogs_m_moves K) fd
  d_cuts : ∃ fd, FunD K "_cuts" "_cuts" (defArgs s_cuts) (defBody s_cuts) (defScope s_cuts) [] [] (ad_cuts K) fd
  d_Cakes_m_moves : ∃ fd, FunD K "moves" "Cakes.moves" (defArgs s_Cakes_m_moves) (defBody s_Cakes_m_moves) (defScope s_Cakes_m_moves) [] [] (ad_Cakes_m_moves K) fd
  d_Table_p_moved : ∃ fd, FunD K "_moved" "Table._moved" (defArgs s_Table_p_moved) (defBody s_Table_p_moved) (defScope s_Table_p_moved) [] [] (ad_Table_p_moved K) fd
  d_Table_m_moves : ∃ fd, FunD K "moves" "Table.moves" (defArgs s_Table_m_moves) (defBody s_Table_m_moves) (defScope s_Table_m_moves) [] [] (ad_Table_m_moves K) fd
  d_Meeting_m_moves : ∃ fd, FunD K "moves" "Meeting.moves" (defArgs s_Meeting_m_moves) (defBody s_Meeting_m_moves) (defScope s_Meeting_m_moves) [] [] (ad_Meeting_m_moves K) fd
  d_Match_m_back : ∃ fd, FunD K "back" "Match.back" (defArgs s_Match_m_back) (defBody s_Match_m_back) (defScope s_Match_m_back) [] [] (ad_Match_m_back K) fd
  d_Match_m_meeting : ∃ fd, FunD K "meeting" "Match.meeting" (defArgs s_Match_m_meeting) (defBody s_Match_m_meeting) (defScope s_Match_m_meeting) [] [] (ad_Match_m_meeting K) fd
  d_other_side : ∃ fd, FunD K "other_side" "other_side" (defArgs s_other_side) (defBody s_other_side) (defScope s_other_side) [] [] (ad_other_side K) fd
  d_Match_m_turn : ∃ fd, FunD K "turn" "Match.turn" (defArgs s_Match_m_turn) (defBody s_Match_m_turn) (defScope s_Match_m_turn) [] [] (ad_Match_m_turn K) fd
  d_Match_m_moves : ∃ fd, FunD K "moves" "Match.moves" (defArgs s_Match_m_moves) (defBody s_Match_m_moves) (defScope s_Match_m_moves) [] [] (ad_Match_m_moves K) fd
  d_Meeting_m_moved : ∃ fd, FunD K "moved" "Meeting.moved" (defArgs s_Meeting_m_moved) (defBody s_Meeting_m_moved) (defScope s_Meeting_m_moved) [] [] (ad_Meeting_m_moved K) fd
  d_Match_m_play : ∃ fd, FunD K "play" "Match.play" (defArgs s_Match_m_play) (defBody s_Match_m_play) (defScope s_Match_m_play) [] [] (ad_Match_m_play K) fd
  d_law_no_move : ∃ fd, FunD K "_law_no_move" "_law_no_move" (defArgs s_law_no_move) (defBody s_law_no_move) (defScope s_law_no_move) [] [] (ad_law_no_move K) fd
  d_Meeting_m_boards : ∃ fd, FunD K "boards" "Meeting.boards" (defArgs s_Meeting_m_boards) (defBody s_Meeting_m_boards) (defScope s_Meeting_m_boards) [] [] (ad_Meeting_m_boards K) fd
  d_law_deed : ∃ fd, FunD K "_law_deed" "_law_deed" (defArgs s_law_deed) (defBody s_law_deed) (defScope s_law_deed) [] [] (ad_law_deed K) fd
  d_Heaps_m_value : ∃ fd, FunD K "value" "Heaps.value" (defArgs s_Heaps_m_value) (defBody s_Heaps_m_value) (defScope s_Heaps_m_value) [] [] (ad_Heaps_m_value K) fd
  d_Floor_m_value : ∃ fd, FunD K "value" "Floor.value" (defArgs s_Floor_m_value) (defBody s_Floor_m_value) (defScope s_Floor_m_value) [] [] (ad_Floor_m_value K) fd
  d_Frogs_m_value : ∃ fd, FunD K "value" "Frogs.value" (defArgs s_Frogs_m_value) (defBody s_Frogs_m_value) (defScope s_Frogs_m_value) [] [] (ad_Frogs_m_value K) fd
  d_Cakes_m_value : ∃ fd, FunD K "value" "Cakes.value" (defArgs s_Cakes_m_value) (defBody s_Cakes_m_value) (defScope s_Cakes_m_value) [] [] (ad_Cakes_m_value K) fd
  d_Table_m_value : ∃ fd, FunD K "value" "Table.value" (defArgs s_Table_m_value) (defBody s_Table_m_value) (defScope s_Table_m_value) [] [] (ad_Table_m_value K) fd
  d_Meeting_m_value : ∃ fd, FunD K "value" "Meeting.value" (defArgs s_Meeting_m_value) (defBody s_Meeting_m_value) (defScope s_Meeting_m_value) [] [] (ad_Meeting_m_value K) fd
  d_Match_m_record : ∃ fd, FunD K "record" "Match.record" (defArgs s_Match_m_record) (defBody s_Match_m_record) (defScope s_Match_m_record) [] [] (ad_Match_m_record K) fd
  d_Match_m_winner : ∃ fd, FunD K "winner" "Match.winner" (defArgs s_Match_m_winner) (defBody s_Match_m_winner) (defScope s_Match_m_winner) [] [] (ad_Match_m_winner K) fd
  d_law_is : ∃ fd, FunD K "_law_is" "_law_is" (defArgs s_law_is) (defBody s_law_is) (defScope s_law_is) [] [] (ad_law_is K) fd
  d_law : ∃ fd, FunD K "law" "law" (defArgs s_law) (defBody s_law) (defScope s_law) [] [] (ad_law K) fd
theorem Txt.FHeaps {w : World} {K : PySem.W.Frag} {mg : Str → Option Value} (T : Txt w K mg) : FHeaps K := ⟨T.cl_Heaps, T.na_Heaps__sizes⟩
theorem Txt.FTable {w : World} {K : PySem.W.Frag} {mg : Str → Option Value} (T : Txt w K mg) : FTable K := ⟨T.cl_Table, T.na_Table__place, T.na_Table__rows⟩
theorem Txt.FCakes {w : World} {K : PySem.W.Frag} {mg : Str → Option Value} (T : Txt w K mg) : FCakes K := ⟨T.cl_Cakes, T.na_Cakes__cakes⟩
theorem Txt.FFrogs {w : World} {K : PySem.W.Frag} {mg : Str → Option Value} (T : Txt w K mg) : FFrogs K := ⟨T.cl_Frogs, T.na_Frogs__line⟩
theorem Txt.FSIGNS {w : World} {K : PySem.W.Frag} {mg : Str → Option Value} (T : Txt w K mg) : FSIGNS K := ⟨T.tx_SIGNS⟩
theorem Txt.FMOVERS {w : World} {K : PySem.W.Frag} {mg : Str → Option Value} (T : Txt w K mg) : FMOVERS K := ⟨T.tk_MOVERS_left, T.tk_MOVERS_right⟩
theorem Txt.FFloor {w : World} {K : PySem.W.Frag} {mg : Str → Option Value} (T : Txt w K mg) : FFloor K := ⟨T.cl_Floor, T.na_Floor__rows⟩
theorem Txt.FSHAPES {w : World} {K : PySem.W.Frag} {mg : Str → Option Value} (T : Txt w K mg) : FSHAPES K := ⟨T.tk_SHAPES_left, T.tk_SHAPES_right⟩
theorem Txt.FHedge {w : World} {K : PySem.W.Frag} {mg : Str → Option Value} (T : Txt w K mg) : FHedge K := ⟨T.cl_Hedge, T.na_Hedge__edges⟩
theorem Txt.FCOLOURS {w : World} {K : PySem.W.Frag} {mg : Str → Option Value} (T : Txt w K mg) : FCOLOURS K := ⟨T.tx_COLOURS⟩
theorem Txt.FCUTS {w : World} {K : PySem.W.Frag} {mg : Str → Option Value} (T : Txt w K mg) : FCUTS K := ⟨T.tk_CUTS_left, T.tk_CUTS_right⟩
theorem Txt.FKinds {w : World} {K : PySem.W.Frag} {mg : Str → Option Value} (T : Txt w K mg) : FKinds K := ⟨T.mk_Heaps, T.mk_Hedge, T.mk_Floor, T.mk_Frogs, T.mk_Cakes, T.mk_Table, T.mk_Meeting, T.ne_Meeting_Heaps, T.ne_Meeting_Hedge, T.ne_Meeting_Floor, T.ne_Meeting_Frogs, T.ne_Meeting_Cakes, T.ne_Meeting_Table⟩
theorem Txt.FMeeting {w : World} {K : PySem.W.Frag} {mg : Str → Option Value} (T : Txt w K mg) : FMeeting K := ⟨T.cl_Meeting, T.na_Meeting__boards⟩
theorem Txt.FMatch {w : World} {K : PySem.W.Frag} {mg : Str → Option Value} (T : Txt w K mg) : FMatch K := ⟨T.cl_Match, T.na_Match__first, T.na_Match__indexes, T.na_Match__meetings⟩
theorem Txt.FSIDES {w : World} {K : PySem.W.Frag} {mg : Str → Option Value} (T : Txt w K mg) : FSIDES K := ⟨T.tx_SIDES⟩
theorem Txt.FBadSide {w : World} {K : PySem.W.Frag} {mg : Str → Option Value} (T : Txt w K mg) : FBadSide K := ⟨T.em_BadValue_BadValue, T.ki_BadValue_PlayError, T.ki_BadValue_NoMove⟩
theorem Txt.FNoMoveM {w : World} {K : PySem.W.Frag} {mg : Str → Option Value} (T : Txt w K mg) : FNoMoveM K := ⟨T.em_NoMove_NoMove, T.ki_NoMove_BadValue, T.ki_NoMove_BadText, T.ki_NoMove_Unknown, T.ki_NoMove_PlayError, T.ki_NoMove_ValueError⟩
abbrev O_law_tape (P : Program) (w : World) (K : PySem.W.Frag) (mg : Str → Option Value) (base : Heap) : Prop := DefOk P w K mg base CX0 1 "_law_tape" "_law_tape" s_law_tape [] (ad_law_tape K) ["cell", "k"] (sp_law_tape K)
abbrev O_is_board (P : Program) (w : World) (K : PySem.W.Frag) (mg : Str → Option Value) (base : Heap) : Prop := DefOk P w K mg base CX0 1 "is_board" "is_board" s_is_board [] (ad_is_board K) ["thing"] (sp_is_board K)
abbrev O_Meeting_d_init (P : Program) (w : World) (K : PySem.W.Frag) (mg : Str → Option Value) (base : Heap) : Prop := DefOk P w K mg base (L2.CX P w) 2 "__init__" "Meeting.__init__" s_Meeting_d_init [] (ad_Meeting_d_init K) ["self", "boards"] (sp_Meeting_d_init K)
abbrev O_law_draw (P : Program) (w : World) (K : PySem.W.Frag) (mg : Str → Option Value) (base : Heap) : Prop := DefOk P w K mg base CX0 1 "_law_draw" "_law_draw" s_law_draw [] (ad_law_draw K) ["tape", "size"] (sp_law_draw K)
abbrev O_is_whole (P : Program) (w : World) (K : PySem.W.Frag) (mg : Str → Option Value) (base : Heap) : Prop := DefOk P w K mg base CX0 1 "is_whole" "is_whole" s_is_whole [] (ad_is_whole K) ["thing", "least", "most"] (sp_is_whole K)
abbrev O_Heaps_d_init (P : Program) (w : World) (K : PySem.W.Frag) (mg : Str → Option Value) (base : Heap) : Prop := DefOk P w K mg base (L2.CX P w) 2 "__init__" "Heaps.__init__" s_Heaps_d_init [] (ad_Heaps_d_init K) ["self", "sizes"] (sp_Heaps_d_init K)
abbrev O_law_heaps (P : Program) (w : World) (K : PySem.W.Frag) (mg : Str → Option Value) (base : Heap) : Prop := DefOk P w K mg base CX0 4 "_law_heaps" "_law_heaps" s_law_heaps [] (ad_law_heaps K) ["tape"] (sp_law_heaps K)
abbrev O_check_edge (P : Program) (w : World) (K : PySem.W.Frag) (mg : Str → Option Value) (base : Heap) : Prop := DefOk P w K mg base (L2.CX P w) 2 "_check_edge" "_check_edge" s_check_edge [] (ad_check_edge K) ["edge"] (sp_check_edge K)
abbrev O_reached (P : Program) (w : World) (K : PySem.W.Frag) (mg : Str → Option Value) (base : Heap) : Prop := DefOk P w K mg base CX0 1 "_reached" "_reached" s_reached [] (ad_reached K) ["edges", "knots"] (sp_reached K)
abbrev O_Hedge_d_init (P : Program) (w : World) (K : PySem.W.Frag) (mg : Str → Option Value) (base : Heap) : Prop := DefOk P w K mg base (L2.CX P w) 3 "__init__" "Hedge.__init__" s_Hedge_d_init [] (ad_Hedge_d_init K) ["self", "edges"] (sp_Hedge_d_init K)
abbrev O_law_hedge (P : Program) (w : World) (K : PySem.W.Frag) (mg : Str → Option Value) (base : Heap) : Prop := DefOk P w K mg base CX0 5 "_law_hedge" "_law_hedge" s_law_hedge [] (ad_law_hedge K) ["tape"] (sp_law_hedge K)
abbrev O_Floor_d_init (P : Program) (w : World) (K : PySem.W.Frag) (mg : Str → Option Value) (base : Heap) : Prop := DefOk P w K mg base (L2.CX P w) 1 "__init__" "Floor.__init__" s_Floor_d_init [] (ad_Floor_d_init K) ["self", "rows"] (sp_Floor_d_init K)
abbrev O_law_floor (P : Program) (w : World) (K : PySem.W.Frag) (mg : Str → Option Value) (base : Heap) : Prop := DefOk P w K mg base CX0 3 "_law_floor" "_law_floor" s_law_floor [] (ad_law_floor K) ["tape"] (sp_law_floor K)
abbrev O_Frogs_d_init (P : Program) (w : World) (K : PySem.W.Frag) (mg : Str → Option Value) (base : Heap) : Prop := DefOk P w K mg base (L2.CX P w) 1 "__init__" "Frogs.__init__" s_Frogs_d_init [] (ad_Frogs_d_init K) ["self", "line"] (sp_Frogs_d_init K)
abbrev O_law_frogs (P : Program) (w : World) (K : PySem.W.Frag) (mg : Str → Option Value) (base : Heap) : Prop := DefOk P w K mg base CX0 3 "_law_frogs" "_law_frogs" s_law_frogs [] (ad_law_frogs K) ["tape"] (sp_law_frogs K)
abbrev O_check_cake (P : Program) (w : World) (K : PySem.W.Frag) (mg : Str → Option Value) (base : Heap) : Prop := DefOk P w K mg base (L2.CX P w) 2 "_check_cake" "_check_cake" s_check_cake [] (ad_check_cake K) ["cake"] (sp_check_cake K)
abbrev O_Cakes_d_init (P : Program) (w : World) (K : PySem.W.Frag) (mg : Str → Option Value) (base : Heap) : Prop := DefOk P w K mg base (L2.CX P w) 3 "__init__" "Cakes.__init__" s_Cakes_d_init [] (ad_Cakes_d_init K) ["self", "cakes"] (sp_Cakes_d_init K)
abbrev O_law_cakes (P : Program) (w : World) (K : PySem.W.Frag) (mg : Str → Option Value) (base : Heap) : Prop := DefOk P w K mg base CX0 5 "_law_cakes" "_law_cakes" s_law_cakes [] (ad_law_cakes K) ["tape"] (sp_law_cakes K)
abbrev O_check_row (P : Program) (w : World) (K : PySem.W.Frag) (mg : Str → Option Value) (base : Heap) : Prop := DefOk P w K mg base (L2.CX P w) 2 "_check_row" "_check_row" s_check_row [] (ad_check_row K) ["row", "at", "count"] (sp_check_row K)
abbrev O_Table_d_init (P : Program) (w : World) (K : PySem.W.Frag) (mg : Str → Option Value) (base : Heap) : Prop := DefOk P w K mg base (L2.CX P w) 3 "__init__" "Table.__init__" s_Table_d_init [] (ad_Table_d_init K) ["self", "rows", "place"] (sp_Table_d_init K)
abbrev O_law_table (P : Program) (w : World) (K : PySem.W.Frag) (mg : Str → Option Value) (base : Heap) : Prop := DefOk P w K mg base CX0 5 "_law_table" "_law_table" s_law_table [] (ad_law_table K) ["tape"] (sp_law_table K)
abbrev O_law_board (P : Program) (w : World) (K : PySem.W.Frag) (mg : Str → Option Value) (base : Heap) : Prop := DefOk P w K mg base CX0 6 "_law_board" "_law_board" s_law_board [] (ad_law_board K) ["tape"] (sp_law_board K)
abbrev O_Match_d_init (P : Program) (w : World) (K : PySem.W.Frag) (mg : Str → Option Value) (base : Heap) : Prop := DefOk P w K mg base (L2.CX P w) 1 "__init__" "Match.__init__" s_Match_d_init [] (ad_Match_d_init K) ["self", "meeting", "first"] (sp_Match_d_init K)
abbrev O_law_bad_side (P : Program) (w : World) (K : PySem.W.Frag) (mg : Str → Option Value) (base : Heap) : Prop := DefOk P w K mg base CX0 3 "_law_bad_side" "_law_bad_side" s_law_bad_side [] (ad_law_bad_side K) ["meeting", "first"] (sp_law_bad_side K)
abbrev O_Heaps_m_moves (P : Program) (w : World) (K : PySem.W.Frag) (mg : Str → Option Value) (base : Heap) : Prop := DefOk P w K mg base CX0 4 "moves" "Heaps.moves" s_Heaps_m_moves [] (ad_Heaps_m_moves K) ["self", "side"] (sp_Heaps_m_moves K)
abbrev O_Hedge_m_value (P : Program) (w : World) (K : PySem.W.Frag) (mg : Str → Option Value) (base : Heap) : Prop := DefOk P w K mg base CX0 1 "value" "Hedge.value" s_Hedge_m_value [] (ad_Hedge_m_value K) ["self"] (sp_Hedge_m_value K)
abbrev O_Hedge_m_moves (P : Program) (w : World) (K : PySem.W.Frag) (mg : Str → Option Value) (base : Heap) : Prop := DefOk P w K mg base CX0 5 "moves" "Hedge.moves" s_Hedge_m_moves [] (ad_Hedge_m_moves K) ["self", "side"] (sp_Hedge_m_moves K)
abbrev O_Floor_p_cells (P : Program) (w : World) (K : PySem.W.Frag) (mg : Str → Option Value) (base : Heap) : Prop := DefOk P w K mg base CX0 1 "_cells" "Floor._cells" s_Floor_p_cells [] (ad_Floor_p_cells K) ["self"] (sp_Floor_p_cells K)
abbrev O_Floor_p_is_free (P : Program) (w : World) (K : PySem.W.Frag) (mg : Str → Option Value) (base : Heap) : Prop := DefOk P w K mg base CX0 1 "_is_free" "Floor._is_free" s_Floor_p_is_free [] (ad_Floor_p_is_free K) ["self", "row", "column"] (sp_Floor_p_is_free K)
abbrev O_Floor_p_covered (P : Program) (w : World) (K : PySem.W.Frag) (mg : Str → Option Value) (base : Heap) : Prop := DefOk P w K mg base CX0 3 "_covered" "Floor._covered" s_Floor_p_covered [] (ad_Floor_p_covered K) ["self", "cells"] (sp_Floor_p_covered K)
abbrev O_Floor_m_moves (P : Program) (w : World) (K : PySem.W.Frag) (mg : Str → Option Value) (base : Heap) : Prop := DefOk P w K mg base CX0 4 "moves" "Floor.moves" s_Floor_m_moves [] (ad_Floor_m_moves K) ["self", "side"] (sp_Floor_m_moves K)
abbrev O_Frogs_p_sign (P : Program) (w : World) (K : PySem.W.Frag) (mg : Str → Option Value) (base : Heap) : Prop := DefOk P w K mg base CX0 1 "_sign" "Frogs._sign" s_Frogs_p_sign [] (ad_Frogs_p_sign K) ["self", "place"] (sp_Frogs_p_sign K)
abbrev O_Frogs_p_target (P : Program) (w : World) (K : PySem.W.Frag) (mg : Str → Option Value) (base : Heap) : Prop := DefOk P w K mg base CX0 2 "_target" "Frogs._target" s_Frogs_p_target [] (ad_Frogs_p_target K) ["self", "place", "jumped", "step"] (sp_Frogs_p_target K)
abbrev O_Frogs_p_moved (P : Program) (w : World) (K : PySem.W.Frag) (mg : Str → Option Value) (base : Heap) : Prop := DefOk P w K mg base CX0 3 "_moved" "Frogs._moved" s_Frogs_p_moved [] (ad_Frogs_p_moved K) ["self", "place", "target"] (sp_Frogs_p_moved K)
abbrev O_Frogs_m_moves (P : Program) (w : World) (K : PySem.W.Frag) (mg : Str → Option Value) (base : Heap) : Prop := DefOk P w K mg base CX0 4 "moves" "Frogs.moves" s_Frogs_m_moves [] (ad_Frogs_m_moves K) ["self", "side"] (sp_Frogs_m_moves K)
abbrev O_cuts (P : Program) (w : World) (K : PySem.W.Frag) (mg : Str → Option Value) (base : Heap) : Prop := DefOk P w K mg base CX0 1 "_cuts" "_cuts" s_cuts [] (ad_cuts K) ["cake", "side"] (sp_cuts K)
abbrev O_Cakes_m_moves (P : Program) (w : World) (K : PySem.W.Frag) (mg : Str → Option Value) (base : Heap) : Prop := DefOk P w K mg base CX0 5 "moves" "Cakes.moves" s_Cakes_m_moves [] (ad_Cakes_m_moves K) ["self", "side"] (sp_Cakes_m_moves K)
abbrev O_Table_p_moved (P : Program) (w : World) (K : PySem.W.Frag) (mg : Str → Option Value) (base : Heap) : Prop := DefOk P w K mg base CX0 5 "_moved" "Table._moved" s_Table_p_moved [] (ad_Table_p_moved K) ["self", "place"] (sp_Table_p_moved K)
abbrev O_Table_m_moves (P : Program) (w : World) (K : PySem.W.Frag) (mg : Str → Option Value) (base : Heap) : Prop := DefOk P w K mg base CX0 6 "moves" "Table.moves" s_Table_m_moves [] (ad_Table_m_moves K) ["self", "side"] (sp_Table_m_moves K)
abbrev O_Meeting_m_moves (P : Program) (w : World) (K : PySem.W.Frag) (mg : Str → Option Value) (base : Heap) : Prop := DefOk P w K mg base CX0 7 "moves" "Meeting.moves" s_Meeting_m_moves [] (ad_Meeting_m_moves K) ["self", "side"] (sp_Meeting_m_moves K)
abbrev O_Match_m_back (P : Program) (w : World) (K : PySem.W.Frag) (mg : Str → Option Value) (base : Heap) : Prop := DefOk P w K mg base (L2.CX P w) 1 "back" "Match.back" s_Match_m_back [] (ad_Match_m_back K) ["self"] (sp_Match_m_back K)
abbrev O_Match_m_meeting (P : Program) (w : World) (K : PySem.W.Frag) (mg : Str → Option Value) (base : Heap) : Prop := DefOk P w K mg base CX0 1 "meeting" "Match.meeting" s_Match_m_meeting [] (ad_Match_m_meeting K) ["self"] (sp_Match_m_meeting K)
abbrev O_other_side (P : Program) (w : World) (K : PySem.W.Frag) (mg : Str → Option Value) (base : Heap) : Prop := DefOk P w K mg base CX0 1 "other_side" "other_side" s_other_side [] (ad_other_side K) ["side"] (sp_other_side K)
abbrev O_Match_m_turn (P : Program) (w : World) (K : PySem.W.Frag) (mg : Str → Option Value) (base : Heap) : Prop := DefOk P w K mg base CX0 2 "turn" "Match.turn" s_Match_m_turn [] (ad_Match_m_turn K) ["self"] (sp_Match_m_turn K)
abbrev O_Match_m_moves (P : Program) (w : World) (K : PySem.W.Frag) (mg : Str → Option Value) (base : Heap) : Prop := DefOk P w K mg base CX0 8 "moves" "Match.moves" s_Match_m_moves [] (ad_Match_m_moves K) ["self"] (sp_Match_m_moves K)
abbrev O_Meeting_m_moved (P : Program) (w : World) (K : PySem.W.Frag) (mg : Str → Option Value) (base : Heap) : Prop := DefOk P w K mg base CX0 4 "moved" "Meeting.moved" s_Meeting_m_moved [] (ad_Meeting_m_moved K) ["self", "place", "board"] (sp_Meeting_m_moved K)
abbrev O_Match_m_play (P : Program) (w : World) (K : PySem.W.Frag) (mg : Str → Option Value) (base : Heap) : Prop := DefOk P w K mg base (L2.CX P w) 9 "play" "Match.play" s_Match_m_play [] (ad_Match_m_play K) ["self", "index"] (sp_Match_m_play K)
abbrev O_law_no_move (P : Program) (w : World) (K : PySem.W.Frag) (mg : Str → Option Value) (base : Heap) : Prop := DefOk P w K mg base CX0 10 "_law_no_move" "_law_no_move" s_law_no_move [] (ad_law_no_move K) ["match", "index"] (sp_law_no_move K)
abbrev O_Meeting_m_boards (P : Program) (w : World) (K : PySem.W.Frag) (mg : Str → Option Value) (base : Heap) : Prop := DefOk P w K mg base CX0 1 "boards" "Meeting.boards" s_Meeting_m_boards [] (ad_Meeting_m_boards K) ["self"] (sp_Meeting_m_boards K)
abbrev O_law_deed (P : Program) (w : World) (K : PySem.W.Frag) (mg : Str → Option Value) (base : Heap) : Prop := DefOk P w K mg base CX0 11 "_law_deed" "_law_deed" s_law_deed [] (ad_law_deed K) ["match", "model", "tape"] (sp_law_deed K)
abbrev O_Heaps_m_value (P : Program) (w : World) (K : PySem.W.Frag) (mg : Str → Option Value) (base : Heap) : Prop := DefOk P w K mg base CX0 1 "value" "Heaps.value" s_Heaps_m_value [] (ad_Heaps_m_value K) ["self"] (sp_Heaps_m_value K)
abbrev O_Floor_m_value (P : Program) (w : World) (K : PySem.W.Frag) (mg : Str → Option Value) (base : Heap) : Prop := DefOk P w K mg base CX0 1 "value" "Floor.value" s_Floor_m_value [] (ad_Floor_m_value K) ["self"] (sp_Floor_m_value K)
abbrev O_Frogs_m_value (P : Program) (w : World) (K : PySem.W.Frag) (mg : Str → Option Value) (base : Heap) : Prop := DefOk P w K mg base CX0 1 "value" "Frogs.value" s_Frogs_m_value [] (ad_Frogs_m_value K) ["self"] (sp_Frogs_m_value K)
abbrev O_Cakes_m_value (P : Program) (w : World) (K : PySem.W.Frag) (mg : Str → Option Value) (base : Heap) : Prop := DefOk P w K mg base CX0 1 "value" "Cakes.value" s_Cakes_m_value [] (ad_Cakes_m_value K) ["self"] (sp_Cakes_m_value K)
abbrev O_Table_m_value (P : Program) (w : World) (K : PySem.W.Frag) (mg : Str → Option Value) (base : Heap) : Prop := DefOk P w K mg base CX0 1 "value" "Table.value" s_Table_m_value [] (ad_Table_m_value K) ["self"] (sp_Table_m_value K)
abbrev O_Meeting_m_value (P : Program) (w : World) (K : PySem.W.Frag) (mg : Str → Option Value) (base : Heap) : Prop := DefOk P w K mg base CX0 2 "value" "Meeting.value" s_Meeting_m_value [] (ad_Meeting_m_value K) ["self"] (sp_Meeting_m_value K)
abbrev O_Match_m_record (P : Program) (w : World) (K : PySem.W.Frag) (mg : Str → Option Value) (base : Heap) : Prop := DefOk P w K mg base CX0 1 "record" "Match.record" s_Match_m_record [] (ad_Match_m_record K) ["self"] (sp_Match_m_record K)
abbrev O_Match_m_winner (P : Program) (w : World) (K : PySem.W.Frag) (mg : Str → Option Value) (base : Heap) : Prop := DefOk P w K mg base CX0 9 "winner" "Match.winner" s_Match_m_winner [] (ad_Match_m_winner K) ["self"] (sp_Match_m_winner K)
abbrev O_law_is (P : Program) (w : World) (K : PySem.W.Frag) (mg : Str → Option Value) (base : Heap) : Prop := DefOk P w K mg base CX0 10 "_law_is" "_law_is" s_law_is [] (ad_law_is K) ["match", "model"] (sp_law_is K)
abbrev O_law (P : Program) (w : World) (K : PySem.W.Frag) (mg : Str → Option Value) (base : Heap) : Prop := DefOk P w K mg base CX0 12 "law" "law" s_law [] (ad_law K) ["script"] (sp_law K)
theorem ok_law_tape {P : Program} {w : World} {K : PySem.W.Frag} {mg : Str → Option Value} {base : Heap} (T : Txt w K mg)  : O_law_tape P w K mg base := by
  obtain ⟨fd, X⟩ := T.d_law_tape
  refine ⟨fd, X, X.ok sc_law_tape (fun vs H Q E h => len_law_tape h) (fun cdv A outer s H vs Q E hr h => ⟨t_law_tape K E, PSs.nox ?_, pure_law_tape vs H Q E h⟩)⟩
  exact (pss_one (ps_ret (pe_lst (pa_cons (pv 0) (pa_cons (pe_callTy cr_intB rfl T.z_int (by decide +kernel) (pa_cons (pe_cmpR op_ge (pv 0) (pe_op op_pow pe_int pe_int) (nomark _)) pa_nil)) (pa_cons (pe_op op_mod (pe_callTy cr_intI rfl T.z_int (by decide +kernel) (pa_cons (pe_op op_add (pe_op op_add (pe_op op_mul (pv 0) pe_int) (pe_op op_mul (pv 1) pe_int)) pe_int) pa_nil)) pe_int) pa_nil))))))
theorem ok_is_board {P : Program} {w : World} {K : PySem.W.Frag} {mg : Str → Option Value} {base : Heap} (T : Txt w K mg)  : O_is_board P w K mg base := by
  obtain ⟨fd, X⟩ := T.d_is_board
  refine ⟨fd, X, X.ok sc_is_board (fun vs H Q E h => len_is_board h) (fun cdv A outer s H vs Q E hr h => ⟨t_is_board K E, PSs.nox ?_, pure_is_board T.FKinds vs H Q E h⟩)⟩
  exact (pss_one (ps_ret (pe_or (pe_cmpR op_isA (pe_callTy call_typeI rfl T.z_type (by decide +kernel) (pa_cons (pv 0) pa_nil)) (C8.pe_gc rfl ⟨_, T.g_Heaps, rfl⟩) (nomark _)) (pe_or (pe_cmpR op_isA (pe_callTy call_typeI rfl T.z_type (by decide +kernel) (pa_cons (pv 0) pa_nil)) (C8.pe_gc rfl ⟨_, T.g_Hedge, rfl⟩) (nomark _)) (pe_or (pe_cmpR op_isA (pe_callTy call_typeI rfl T.z_type (by decide +kernel) (pa_cons (pv 0) pa_nil)) (C8.pe_gc rfl ⟨_, T.g_Floor, rfl⟩) (nomark _)) (pe_or (pe_cmpR op_isA (pe_callTy call_typeI rfl T.z_type (by decide +kernel) (pa_cons (pv 0) pa_nil)) (C8.pe_gc rfl ⟨_, T.g_Frogs, rfl⟩) (nomark _)) (pe_or (pe_cmpR op_isA (pe_callTy call_typeI rfl T.z_type (by decide +kernel) (pa_cons (pv 0) pa_nil)) (C8.pe_gc rfl ⟨_, T.g_Cakes, rfl⟩) (nomark _)) (pe_one (pe_cmpR op_isA (pe_callTy call_typeI rfl T.z_type (by decide +kernel) (pa_cons (pv 0) pa_nil)) (C8.pe_gc rfl ⟨_, T.g_Table, rfl⟩) (nomark _))))))))))
theorem ok_Meeting_d_init {P : Program} {w : World} {K : PySem.W.Frag} {mg : Str → Option Value} {base : Heap} (T : Txt w K mg) (D_is_board : O_is_board P w K mg base) : O_Meeting_d_init P w K mg base := by
  obtain ⟨fd_is_board, X_is_board, G_is_board⟩ := D_is_board.ex
  have K_is_board := X_is_board.kp
  have B_is_board := X_is_board.bindsN (ps := ["thing"]) fun _ _ _ _ _ _ us hl => match us, hl with | [_], _ => rfl
  have V_is_board : Vals [] [] := .nil
  obtain ⟨fd, X⟩ := T.d_Meeting_d_init
  refine ⟨fd, X, X.ok sc_Meeting_d_init (fun vs H Q E h => len_Meeting_d_init h) (fun cdv A outer s H vs Q E hr h => ⟨t_Meeting_d_init K E, ?_, pure_Meeting_d_init T.FMeeting T.FKinds vs H Q E h⟩)⟩
  exact (pss_cons (ps_if (PW.pt (pw_or (pt_cmpR op_notA (pe_callTy call_typeI rfl T.z_type (by decide +kernel) (pa_cons (pv 1) pa_nil)) (pe_bltn rfl T.z_list (by decide +kernel) rfl) (nomark _)) (pw_or1 (pt_cmpR op_gt (pe_callB cr_lenQ rfl T.z_len (by decide +kernel) (pa_cons (pv 1) pa_nil)) (C8.pe_gc rfl (cst_ok T.c_MOST_BOARDS)) (nomark _))))) (pss_one (ps_raise rfl (takes_of rfl rfl rfl rfl) (pmk_own PySem.F.excBase_ValueError T.x_BadValue.1 T.g_BadValue T.x_BadValue.2.1 (raises_own T.x_BadValue.2.2.1 T.x_BadValue.2.2.2) (by exact rfl)))) pss_nil)
      (pss_cons (ps_for (passes_of rfl) rfl (pi_list (pv 1)) (pg_name (i := 2) sc_Meeting_d_init.nd rfl (Or.inl rfl))
      (pss_one (ps_if (pt_not (pt_val (pe_call G_is_board (hr.mono (by decide)) rfl T.g_is_board K_is_board B_is_board V_is_board pass0 (pa_cons (pv 2) pa_nil)))) (pss_one (ps_raise rfl (takes_of rfl rfl rfl rfl) (pmk_own PySem.F.excBase_ValueError T.x_BadValue.1 T.g_BadValue T.x_BadValue.2.1 (raises_own T.x_BadValue.2.2.1 T.x_BadValue.2.2.2) (by exact rfl)))) pss_nil)))
      (pss_one (ps_fld (pv 0) (pe_callTy cr_tupL rfl T.z_tuple (by decide +kernel) (pa_cons (pv 1) pa_nil)) rfl))))
theorem ok_law_draw {P : Program} {w : World} {K : PySem.W.Frag} {mg : Str → Option Value} {base : Heap} (T : Txt w K mg)  : O_law_draw P w K mg base := by
  obtain ⟨fd, X⟩ := T.d_law_draw
  refine ⟨fd, X, X.ok sc_law_draw (fun vs H Q E h => len_law_draw h) (fun cdv A outer s H vs Q E hr h => ⟨t_law_draw K E, PSs.nox ?_, pure_law_draw vs H Q E h⟩)⟩
  exact (pss_cons (ps_if (PW.pt (pw_and (pt_cmpR op_eq (pe_ix ix_list (pv 0) pe_int (fun _ _ => rfl)) pe_int (nomark _)) (pw_and1 (pt_cmpR op_gt (pe_ix ix_list (pv 0) pe_int (fun _ _ => rfl)) pe_int (nomark _))))) (pss_cons (ps_set (i := 2) sc_law_draw.nd rfl (Or.inl rfl) (pe_op op_mod (pe_callTy cr_intI rfl T.z_int (by decide +kernel) (pa_cons (pe_ix ix_list (pv 0) pe_int (fun _ _ => rfl)) pa_nil)) (pv 1)))
      (pss_cons (ps_asg (pe_op op_fdivW (pe_ix ix_list (pv 0) pe_int (fun _ _ => rfl)) (pv 1)) (pg_sub (pv 0) pe_int set_list))
      (pss_one (ps_ret (pv 2))))) pss_nil)
      (pss_cons (ps_asg (pe_op op_mod (pe_callTy cr_intI rfl T.z_int (by decide +kernel) (pa_cons (pe_op op_add (pe_op op_mul (pe_ix ix_list (pv 0) pe_int (fun _ _ => rfl)) pe_int) pe_int) pa_nil)) pe_int) (pg_sub (pv 0) pe_int set_list))
      (pss_one (ps_ret (pe_op op_mod (pe_callTy cr_intI rfl T.z_int (by decide +kernel) (pa_cons (pe_op op_fdiv (pe_op op_mod (pe_callTy cr_intI rfl T.z_int (by decide +kernel) (pa_cons (pe_op op_add (pe_op op_mul (pe_ix ix_list (pv 0) pe_int (fun _ _ => rfl)) pe_int) pe_int) pa_nil)) pe_int) pe_int) pa_nil)) (pv 1))))))
theorem ok_is_whole {P : Program} {w : World} {K : PySem.W.Frag} {mg : Str → Option Value} {base : Heap} (T : Txt w K mg)  : O_is_whole P w K mg base := by
  obtain ⟨fd, X⟩ := T.d_is_whole
  refine ⟨fd, X, X.ok sc_is_whole (fun vs H Q E h => len_is_whole h) (fun cdv A outer s H vs Q E hr h => ⟨t_is_whole K E, PSs.nox ?_, pure_is_whole vs H Q E h⟩)⟩
  exact (pss_one (ps_ret (pe_and (pe_cmpR op_isTyB (pe_callTy call_type1 rfl T.z_type (by decide +kernel) (pa_cons (pv 0) pa_nil)) (pe_bltn rfl T.z_int (by decide +kernel) rfl) (nomark _)) (pe_one (pe_chain op_le op_le (pv 1) (pv 0) (pv 2))))))
theorem ok_Heaps_d_init {P : Program} {w : World} {K : PySem.W.Frag} {mg : Str → Option Value} {base : Heap} (T : Txt w K mg) (D_is_whole : O_is_whole P w K mg base) : O_Heaps_d_init P w K mg base := by
  obtain ⟨fd_is_whole, X_is_whole, G_is_whole⟩ := D_is_whole.ex
  have K_is_whole := X_is_whole.kp
  have B_is_whole := X_is_whole.bindsN (ps := ["thing", "least", "most"]) fun _ _ _ _ _ _ us hl => match us, hl with | [_, _, _], _ => rfl
  have V_is_whole : Vals [] [] := .nil
  obtain ⟨fd, X⟩ := T.d_Heaps_d_init
  refine ⟨fd, X, X.ok sc_Heaps_d_init (fun vs H Q E h => len_Heaps_d_init h) (fun cdv A outer s H vs Q E hr h => ⟨t_Heaps_d_init K E, ?_, pure_Heaps_d_init T.FHeaps vs H Q E h⟩)⟩
  exact (pss_cons (ps_if (PW.pt (pw_or (pt_cmpR op_notTyB (pe_callTy call_type1 rfl T.z_type (by decide +kernel) (pa_cons (pv 1) pa_nil)) (pe_bltn rfl T.z_list (by decide +kernel) rfl) (nomark _)) (pw_or1 (pt_cmpR op_gt (pe_callB cr_lenQ rfl T.z_len (by decide +kernel) (pa_cons (pv 1) pa_nil)) (C8.pe_gc rfl (cst_ok T.c_MOST_HEAPS)) (nomark _))))) (pss_one (ps_raise rfl (takes_of rfl rfl rfl rfl) (pmk_own PySem.F.excBase_ValueError T.x_BadValue.1 T.g_BadValue T.x_BadValue.2.1 (raises_own T.x_BadValue.2.2.1 T.x_BadValue.2.2.2) (by exact rfl)))) pss_nil)
      (pss_cons (ps_for (passes_of rfl) rfl (pi_list (pv 1)) (pg_name (i := 2) sc_Heaps_d_init.nd rfl (Or.inl rfl))
      (pss_one (ps_if (pt_not (pt_val (pe_call G_is_whole (hr.mono (by decide)) rfl T.g_is_whole K_is_whole B_is_whole V_is_whole pass0 (pa_cons (pv 2) (pa_cons pe_int (pa_cons (C8.pe_gc rfl (cst_ok T.c_MOST_SIZE)) pa_nil)))))) (pss_one (ps_raise rfl (takes_of rfl rfl rfl rfl) (pmk_own PySem.F.excBase_ValueError T.x_BadValue.1 T.g_BadValue T.x_BadValue.2.1 (raises_own T.x_BadValue.2.2.1 T.x_BadValue.2.2.2) (by exact rfl)))) pss_nil)))
      (pss_one (ps_fld (pv 0) (pe_callTy cr_tupL rfl T.z_tuple (by decide +kernel) (pa_cons (pv 1) pa_nil)) rfl))))
theorem ok_law_heaps {P : Program} {w : World} {K : PySem.W.Frag} {mg : Str → Option Value} {base : Heap} (T : Txt w K mg) (D_Heaps_d_init : O_Heaps_d_init P w K mg base) (D_law_draw : O_law_draw P w K mg base) : O_law_heaps P w K mg base := by
  obtain ⟨fd_Heaps_d_init, X_Heaps_d_init, G_Heaps_d_init⟩ := D_Heaps_d_init.ex
  have K_Heaps_d_init := X_Heaps_d_init.kp
  have B_Heaps_d_init := X_Heaps_d_init.bindsN (ps := ["self", "sizes"]) fun _ _ _ _ _ _ us hl => match us, hl with | [_, _], _ => rfl
  have V_Heaps_d_init : Vals [] [] := .nil
  obtain ⟨fd_law_draw, X_law_draw, G_law_draw⟩ := D_law_draw.ex
  have K_law_draw := X_law_draw.kp
  have B_law_draw := X_law_draw.bindsN (ps := ["tape", "size"]) fun _ _ _ _ _ _ us hl => match us, hl with | [_, _], _ => rfl
  have V_law_draw : Vals [] [] := .nil
  obtain ⟨fd, X⟩ := T.d_law_heaps
  refine ⟨fd, X, X.ok sc_law_heaps (fun vs H Q E h => len_law_heaps h) (fun cdv A outer s H vs Q E hr h => ⟨t_law_heaps K E, PSs.nox ?_, pure_law_heaps vs H Q E h⟩)⟩
  exact (pss_one (ps_ret (pe_make T.mk_Heaps G_Heaps_d_init (hr.mono (by decide)) rfl T.g_Heaps B_Heaps_d_init V_Heaps_d_init passL (pa_cons (pe_lc (own := [("k", 1)]) (g := (gName 1)) (tt := tYes) rfl sc_law_heaps.nd (pi_range1 rfl T.z_range (pa_cons (pe_call G_law_draw (hr.mono (by decide)) rfl T.g__law_draw K_law_draw B_law_draw V_law_draw pass0 (pa_cons (pv 0) (pa_cons pe_int pa_nil))) pa_nil)) (blkOk_by (N := R_law_heaps) (sc := defScope s_law_heaps) (by decide +kernel)) (fun _ _ _ _ _ => (pg_name (i := 1) sc_law_heaps.nd rfl (Or.inl rfl))) (fun _ _ _ _ _ => pts_nil) (fun _ _ _ _ _ => (pe_call G_law_draw (hr.mono (by decide)) rfl T.g__law_draw K_law_draw B_law_draw V_law_draw pass0 (pa_cons (pv 0) (pa_cons pe_int pa_nil))))) pa_nil))))
theorem ok_check_edge {P : Program} {w : World} {K : PySem.W.Frag} {mg : Str → Option Value} {base : Heap} (T : Txt w K mg) (D_is_whole : O_is_whole P w K mg base) : O_check_edge P w K mg base := by
  obtain ⟨fd_is_whole, X_is_whole, G_is_whole⟩ := D_is_whole.ex
  have K_is_whole := X_is_whole.kp
  have B_is_whole := X_is_whole.bindsN (ps := ["thing", "least", "most"]) fun _ _ _ _ _ _ us hl => match us, hl with | [_, _, _], _ => rfl
  have V_is_whole : Vals [] [] := .nil
  obtain ⟨fd, X⟩ := T.d_check_edge
  refine ⟨fd, X, X.ok sc_check_edge (fun vs H Q E h => len_check_edge h) (fun cdv A outer s H vs Q E hr h => ⟨t_check_edge K E, ?_, pure_check_edge T.FCOLOURS vs H Q E h⟩)⟩
  exact (pss_cons (ps_if (PW.pt (pw_or (pt_cmpR op_notTyB (pe_callTy call_type1 rfl T.z_type (by decide +kernel) (pa_cons (pv 0) pa_nil)) (pe_bltn rfl T.z_tuple (by decide +kernel) rfl) (nomark _)) (pw_or1 (pt_cmpR op_ne (pe_callB cr_lenQ rfl T.z_len (by decide +kernel) (pa_cons (pv 0) pa_nil)) pe_int (nomark _))))) (pss_one (ps_raise rfl (takes_of rfl rfl rfl rfl) (pmk_own PySem.F.excBase_ValueError T.x_BadValue.1 T.g_BadValue T.x_BadValue.2.1 (raises_own T.x_BadValue.2.2.1 T.x_BadValue.2.2.2) (by exact rfl)))) pss_nil)
      (pss_cons (ps_for (passes_of rfl) rfl (pi_tup (pe_slice sl_tupA (pv 0) po_none (po_some pe_int))) (pg_name (i := 1) sc_check_edge.nd rfl (Or.inl rfl))
      (pss_one (ps_if (pt_not (pt_val (pe_call G_is_whole (hr.mono (by decide)) rfl T.g_is_whole K_is_whole B_is_whole V_is_whole pass0 (pa_cons (pv 1) (pa_cons pe_int (pa_cons (C8.pe_gc rfl (cst_ok T.c_MOST_KNOT)) pa_nil)))))) (pss_one (ps_raise rfl (takes_of rfl rfl rfl rfl) (pmk_own PySem.F.excBase_ValueError T.x_BadValue.1 T.g_BadValue T.x_BadValue.2.1 (raises_own T.x_BadValue.2.2.1 T.x_BadValue.2.2.2) (by exact rfl)))) pss_nil)))
      (pss_one (ps_if (pt_not (PW.pt (pw_and (pt_cmpR op_isTyB (pe_callTy call_type1 rfl T.z_type (by decide +kernel) (pa_cons (pe_ix ix_tup (pv 0) pe_int (fun _ _ => rfl)) pa_nil)) (pe_bltn rfl T.z_str (by decide +kernel) rfl) (nomark _)) (pw_and1 (pt_cmpR op_in_seq (pe_ix ix_tup (pv 0) pe_int (fun _ _ => rfl)) (C8.pe_gc rfl ⟨_, T.g_COLOURS, rfl⟩) (by rfl)))))) (pss_one (ps_raise rfl (takes_of rfl rfl rfl rfl) (pmk_own PySem.F.excBase_ValueError T.x_BadValue.1 T.g_BadValue T.x_BadValue.2.1 (raises_own T.x_BadValue.2.2.1 T.x_BadValue.2.2.2) (by exact rfl)))) pss_nil))))
theorem ok_reached {P : Program} {w : World} {K : PySem.W.Frag} {mg : Str → Option Value} {base : Heap} (T : Txt w K mg)  : O_reached P w K mg base := by
  obtain ⟨fd, X⟩ := T.d_reached
  refine ⟨fd, X, X.ok sc_reached (fun vs H Q E h => len_reached h) (fun cdv A outer s H vs Q E hr h => ⟨t_reached K E, PSs.nox ?_, pure_reached vs H Q E h⟩)⟩
  exact (pss_cons (ps_setDc (i := 2) (own := [("knot", 3)]) (g := (gName 3)) (tt := tYes) rfl sc_reached.nd rfl rfl (swD_true rfl rfl rfl (by decide +kernel)) (pi_list (pv 1)) (blkOk_by (N := R_reached) (sc := defScope s_reached) (by decide +kernel)) (fun _ _ _ _ _ => (pg_name (i := 3) sc_reached.nd rfl (Or.inl rfl))) (fun _ _ _ _ _ => pts_nil) (fun _ _ _ _ _ => (pv 3)) (fun _ _ _ _ _ => pe_bl))
      (pss_cons (ps_set (i := 4) sc_reached.nd rfl (Or.inl rfl) pe_bl)
      (pss_cons (ps_while PassesOwn.never (pt_val (pv 4)) (pss_cons (ps_set (i := 4) sc_reached.nd rfl (Or.inl rfl) pe_bl)
      (pss_one (ps_for PassesOwn.never rfl (pi_list (pv 0)) (pg_tup rfl (pgs_cons (pg_name (i := 5) sc_reached.nd rfl (Or.inl rfl)) (pgs_cons (pg_name (i := 6) sc_reached.nd rfl (Or.inl rfl)) (pgs_cons (pg_name (i := 7) sc_reached.nd rfl (Or.inl rfl)) pgs_nil))))
      (pss_one (ps_if (pt_cmpR op_ne (pe_cmp (pc_din (hu_of hr) (pv 5) (pv 2)) rfl) (pe_cmp (pc_din (hu_of hr) (pv 6) (pv 2)) rfl) (nomark _)) (pss_cons (ps_asg2 pe_bl (pg_sub (pv 2) (pv 5) (set_dict (Nat.lt_of_le_of_lt (Nat.add_le_add_left (show 1 ≤ 64 by decide) _) hr.units))) (pg_sub (pv 2) (pv 6) (set_dict (Nat.lt_of_le_of_lt (Nat.add_le_add_left (show 1 ≤ 64 by decide) _) hr.units))))
      (pss_one (ps_set (i := 4) sc_reached.nd rfl (Or.inl rfl) pe_bl))) pss_nil))))))
      (pss_one (ps_ret (pv 2))))))
theorem ok_Hedge_d_init {P : Program} {w : World} {K : PySem.W.Frag} {mg : Str → Option Value} {base : Heap} (T : Txt w K mg) (D_check_edge : O_check_edge P w K mg base) (D_reached : O_reached P w K mg base) : O_Hedge_d_init P w K mg base := by
  obtain ⟨fd_check_edge, X_check_edge, G_check_edge⟩ := D_check_edge.ex
  have K_check_edge := X_check_edge.kp
  have B_check_edge := X_check_edge.bindsN (ps := ["edge"]) fun _ _ _ _ _ _ us hl => match us, hl with | [_], _ => rfl
  have V_check_edge : Vals [] [] := .nil
  obtain ⟨fd_reached, X_reached, G_reached⟩ := D_reached.ex
  have K_reached := X_reached.kp
  have B_reached := X_reached.bindsN (ps := ["edges", "knots"]) fun _ _ _ _ _ _ us hl => match us, hl with | [_, _], _ => rfl
  have V_reached : Vals [] [] := .nil
  obtain ⟨fd, X⟩ := T.d_Hedge_d_init
  refine ⟨fd, X, X.ok sc_Hedge_d_init (fun vs H Q E h => len_Hedge_d_init h) (fun cdv A outer s H vs Q E hr h => ⟨t_Hedge_d_init K E, ?_, pure_Hedge_d_init T.FHedge vs H Q E h⟩)⟩
  exact (pss_cons (ps_if (PW.pt (pw_or (pt_cmpR op_notTyB (pe_callTy call_type1 rfl T.z_type (by decide +kernel) (pa_cons (pv 1) pa_nil)) (pe_bltn rfl T.z_list (by decide +kernel) rfl) (nomark _)) (pw_or1 (pt_cmpR op_gt (pe_callB cr_lenQ rfl T.z_len (by decide +kernel) (pa_cons (pv 1) pa_nil)) (C8.pe_gc rfl (cst_ok T.c_MOST_EDGES)) (nomark _))))) (pss_one (ps_raise rfl (takes_of rfl rfl rfl rfl) (pmk_own PySem.F.excBase_ValueError T.x_BadValue.1 T.g_BadValue T.x_BadValue.2.1 (raises_own T.x_BadValue.2.2.1 T.x_BadValue.2.2.2) (by exact rfl)))) pss_nil)
      (pss_cons (ps_for (passes_of rfl) rfl (pi_list (pv 1)) (pg_name (i := 2) sc_Hedge_d_init.nd rfl (Or.inl rfl))
      (pss_one (ps_expr (pe_call G_check_edge (hr.mono (by decide)) rfl T.g__check_edge K_check_edge B_check_edge V_check_edge (passes_call (takes_of rfl rfl rfl rfl) fun _ _ _ _ z => z) (pa_cons (pv 2) pa_nil)))))
      (pss_cons (ps_set (i := 3) sc_Hedge_d_init.nd rfl (Or.inr rfl) (pe_call G_reached (hr.mono (by decide)) rfl T.g__reached K_reached B_reached V_reached pass0 (pa_cons (pv 1) (pa_cons (pe_lst (pa_cons (C8.pe_gc rfl (cst_ok T.c_GROUND)) pa_nil)) pa_nil))))
      (pss_one (ps_fld (pv 0) (pe_callTy cr_tupL rfl T.z_tuple (by decide +kernel) (pa_cons (pe_lc (own := [("edge", 2)]) (g := (gName 2)) (tt := (tB (tDIn (tOp (rIxT K) (tVar 2) (tC (.int 0))) (tVar 3)))) rfl sc_Hedge_d_init.nd (pi_list (pv 1)) (blkOk_by (N := R_Hedge_d_init) (sc := defScope s_Hedge_d_init) (by decide +kernel)) (fun _ _ _ _ _ => (pg_name (i := 2) sc_Hedge_d_init.nd rfl (Or.inl rfl))) (fun _ _ _ _ _ => (pts_one (pt_cmp (pc_din (hu_of hr) (pe_ix ix_tup (pv 2) pe_int (fun _ _ => rfl)) (pv 3))))) (fun _ _ _ _ _ => (pv 2))) pa_nil)) rfl)))))
theorem ok_law_hedge {P : Program} {w : World} {K : PySem.W.Frag} {mg : Str → Option Value} {base : Heap} (T : Txt w K mg) (D_law_draw : O_law_draw P w K mg base) (D_Hedge_d_init : O_Hedge_d_init P w K mg base) : O_law_hedge P w K mg base := by
  obtain ⟨fd_law_draw, X_law_draw, G_law_draw⟩ := D_law_draw.ex
  have K_law_draw := X_law_draw.kp
  have B_law_draw := X_law_draw.bindsN (ps := ["tape", "size"]) fun _ _ _ _ _ _ us hl => match us, hl with | [_, _], _ => rfl
  have V_law_draw : Vals [] [] := .nil
  obtain ⟨fd_Hedge_d_init, X_Hedge_d_init, G_Hedge_d_init⟩ := D_Hedge_d_init.ex
  have K_Hedge_d_init := X_Hedge_d_init.kp
  have B_Hedge_d_init := X_Hedge_d_init.bindsN (ps := ["self", "edges"]) fun _ _ _ _ _ _ us hl => match us, hl with | [_, _], _ => rfl
  have V_Hedge_d_init : Vals [] [] := .nil
  obtain ⟨fd, X⟩ := T.d_law_hedge
  refine ⟨fd, X, X.ok sc_law_hedge (fun vs H Q E h => len_law_hedge h) (fun cdv A outer s H vs Q E hr h => ⟨t_law_hedge K E, PSs.nox ?_, pure_law_hedge vs H Q E h⟩)⟩
  exact (pss_cons (ps_set (i := 1) sc_law_hedge.nd rfl (Or.inl rfl) (pe_lst pa_nil))
      (pss_cons (ps_for PassesOwn.never rfl (pi_range1 rfl T.z_range (pa_cons (pe_call G_law_draw (hr.mono (by decide)) rfl T.g__law_draw K_law_draw B_law_draw V_law_draw pass0 (pa_cons (pv 0) (pa_cons pe_int pa_nil))) pa_nil)) (pg_name (i := 2) sc_law_hedge.nd rfl (Or.inl rfl))
      (pss_cons (ps_set (i := 3) sc_law_hedge.nd rfl (Or.inl rfl) (pe_ix ix_list (pe_lst (pa_cons pe_str (pa_cons pe_str (pa_cons pe_str pa_nil)))) (pe_call G_law_draw (hr.mono (by decide)) rfl T.g__law_draw K_law_draw B_law_draw V_law_draw pass0 (pa_cons (pv 0) (pa_cons pe_int pa_nil))) (fun _ _ => rfl)))
      (pss_one (ps_expr (pe_bm PySem.F.plainAttrs_list PySem.F.slot_list_append PySem.F.type_list_append mt_append (pv 1) (pa_cons (pe_tup (pa_cons (pe_call G_law_draw (hr.mono (by decide)) rfl T.g__law_draw K_law_draw B_law_draw V_law_draw pass0 (pa_cons (pv 0) (pa_cons pe_int pa_nil))) (pa_cons (pe_call G_law_draw (hr.mono (by decide)) rfl T.g__law_draw K_law_draw B_law_draw V_law_draw pass0 (pa_cons (pv 0) (pa_cons pe_int pa_nil))) (pa_cons (pv 3) pa_nil)))) pa_nil))))))
      (pss_one (ps_ret (pe_make T.mk_Hedge G_Hedge_d_init (hr.mono (by decide)) rfl T.g_Hedge B_Hedge_d_init V_Hedge_d_init passL (pa_cons (pv 1) pa_nil))))))
theorem ok_Floor_d_init {P : Program} {w : World} {K : PySem.W.Frag} {mg : Str → Option Value} {base : Heap} (T : Txt w K mg)  : O_Floor_d_init P w K mg base := by
  obtain ⟨fd, X⟩ := T.d_Floor_d_init
  refine ⟨fd, X, X.ok sc_Floor_d_init (fun vs H Q E h => len_Floor_d_init h) (fun cdv A outer s H vs Q E hr h => ⟨t_Floor_d_init K E, ?_, pure_Floor_d_init T.FFloor vs H Q E h⟩)⟩
  exact (pss_cons (ps_if (PW.pt (pw_or (pt_cmpR op_notTyB (pe_callTy call_type1 rfl T.z_type (by decide +kernel) (pa_cons (pv 1) pa_nil)) (pe_bltn rfl T.z_list (by decide +kernel) rfl) (nomark _)) (pw_or1 (pt_not (pt_chain op_le op_le pe_int (pe_callB cr_lenQ rfl T.z_len (by decide +kernel) (pa_cons (pv 1) pa_nil)) (C8.pe_gc rfl (cst_ok T.c_MOST_CELLS))))))) (pss_one (ps_raise rfl (takes_of rfl rfl rfl rfl) (pmk_own PySem.F.excBase_ValueError T.x_BadValue.1 T.g_BadValue T.x_BadValue.2.1 (raises_own T.x_BadValue.2.2.1 T.x_BadValue.2.2.2) (by exact rfl)))) pss_nil)
      (pss_cons (ps_for (passes_of rfl) rfl (pi_list (pv 1)) (pg_name (i := 2) sc_Floor_d_init.nd rfl (Or.inl rfl))
      (pss_cons (ps_if (PW.pt (pw_or (pt_cmpR op_notTyB (pe_callTy call_type1 rfl T.z_type (by decide +kernel) (pa_cons (pv 2) pa_nil)) (pe_bltn rfl T.z_str (by decide +kernel) rfl) (nomark _)) (pw_or (pt_not (pt_chain op_le op_le pe_int (pe_callB cr_lenS rfl T.z_len (by decide +kernel) (pa_cons (pv 2) pa_nil)) (C8.pe_gc rfl (cst_ok T.c_MOST_CELLS)))) (pw_or1 (pt_cmpR op_ne (pe_callB cr_lenS rfl T.z_len (by decide +kernel) (pa_cons (pv 2) pa_nil)) (pe_callB cr_lenS rfl T.z_len (by decide +kernel) (pa_cons (pe_ix ix_list (pv 1) pe_int (fun _ _ => rfl)) pa_nil)) (nomark _)))))) (pss_one (ps_raise rfl (takes_of rfl rfl rfl rfl) (pmk_own PySem.F.excBase_ValueError T.x_BadValue.1 T.g_BadValue T.x_BadValue.2.1 (raises_own T.x_BadValue.2.2.1 T.x_BadValue.2.2.2) (by exact rfl)))) pss_nil)
      (pss_one (ps_if (pt_not (pt_val (pe_callB (cr_all rfl) rfl T.z_all (by decide +kernel) (pa_cons (pe_lc (own := [("cell", 3)]) (g := (gName 3)) (tt := tYes) rfl sc_Floor_d_init.nd (pi_str (pv 2)) (blkOk_by (N := R_Floor_d_init) (sc := defScope s_Floor_d_init) (by decide +kernel)) (fun _ _ _ _ _ => (pg_name (i := 3) sc_Floor_d_init.nd rfl (Or.inl rfl))) (fun _ _ _ _ _ => pts_nil) (fun _ _ _ _ _ => (pe_cmpR op_in_seq (pv 3) (pe_tup (pa_cons (C8.pe_gc rfl (cst_okS T.c_FREE_floor)) (pa_cons (C8.pe_gc rfl (cst_okS T.c_COVERED)) pa_nil))) (by rfl)))) pa_nil)))) (pss_one (ps_raise rfl (takes_of rfl rfl rfl rfl) (pmk_own PySem.F.excBase_ValueError T.x_BadValue.1 T.g_BadValue T.x_BadValue.2.1 (raises_own T.x_BadValue.2.2.1 T.x_BadValue.2.2.2) (by exact rfl)))) pss_nil))))
      (pss_one (ps_fld (pv 0) (pe_callTy cr_tupL rfl T.z_tuple (by decide +kernel) (pa_cons (pv 1) pa_nil)) rfl))))
theorem ok_law_floor {P : Program} {w : World} {K : PySem.W.Frag} {mg : Str → Option Value} {base : Heap} (T : Txt w K mg) (D_law_draw : O_law_draw P w K mg base) (D_Floor_d_init : O_Floor_d_init P w K mg base) : O_law_floor P w K mg base := by
  obtain ⟨fd_law_draw, X_law_draw, G_law_draw⟩ := D_law_draw.ex
  have K_law_draw := X_law_draw.kp
  have B_law_draw := X_law_draw.bindsN (ps := ["tape", "size"]) fun _ _ _ _ _ _ us hl => match us, hl with | [_, _], _ => rfl
  have V_law_draw : Vals [] [] := .nil
  obtain ⟨fd_Floor_d_init, X_Floor_d_init, G_Floor_d_init⟩ := D_Floor_d_init.ex
  have K_Floor_d_init := X_Floor_d_init.kp
  have B_Floor_d_init := X_Floor_d_init.bindsN (ps := ["self", "rows"]) fun _ _ _ _ _ _ us hl => match us, hl with | [_, _], _ => rfl
  have V_Floor_d_init : Vals [] [] := .nil
  obtain ⟨fd, X⟩ := T.d_law_floor
  refine ⟨fd, X, X.ok sc_law_floor (fun vs H Q E h => len_law_floor h) (fun cdv A outer s H vs Q E hr h => ⟨t_law_floor K E, PSs.nox ?_, pure_law_floor vs H Q E h⟩)⟩
  exact (pss_cons (ps_set (i := 1) sc_law_floor.nd rfl (Or.inl rfl) (pe_op op_add pe_int (pe_call G_law_draw (hr.mono (by decide)) rfl T.g__law_draw K_law_draw B_law_draw V_law_draw pass0 (pa_cons (pv 0) (pa_cons pe_int pa_nil)))))
      (pss_cons (ps_set (i := 2) sc_law_floor.nd rfl (Or.inl rfl) (pe_lst pa_nil))
      (pss_cons (ps_for PassesOwn.never rfl (pi_range1 rfl T.z_range (pa_cons (pe_op op_add pe_int (pe_call G_law_draw (hr.mono (by decide)) rfl T.g__law_draw K_law_draw B_law_draw V_law_draw pass0 (pa_cons (pv 0) (pa_cons pe_int pa_nil)))) pa_nil)) (pg_name (i := 3) sc_law_floor.nd rfl (Or.inl rfl))
      (pss_one (ps_expr (pe_bm PySem.F.plainAttrs_list PySem.F.slot_list_append PySem.F.type_list_append mt_append (pv 2) (pa_cons (pe_bm PySem.F.plainAttrs_str PySem.F.slot_str_join PySem.F.type_str_join mt_joinS pe_str (pa_cons (pe_lc (own := [("j", 4)]) (g := (gName 4)) (tt := tYes) rfl sc_law_floor.nd (pi_range1 rfl T.z_range (pa_cons (pv 1) pa_nil)) (blkOk_by (N := R_law_floor) (sc := defScope s_law_floor) (by decide +kernel)) (fun _ _ _ _ _ => (pg_name (i := 4) sc_law_floor.nd rfl (Or.inl rfl))) (fun _ _ _ _ _ => pts_nil) (fun _ _ _ _ _ => (pe_ix ix_str pe_str (pe_call G_law_draw (hr.mono (by decide)) rfl T.g__law_draw K_law_draw B_law_draw V_law_draw pass0 (pa_cons (pv 0) (pa_cons pe_int pa_nil))) (fun _ _ => rfl)))) pa_nil)) pa_nil)))))
      (pss_one (ps_ret (pe_make T.mk_Floor G_Floor_d_init (hr.mono (by decide)) rfl T.g_Floor B_Floor_d_init V_Floor_d_init passL (pa_cons (pv 2) pa_nil)))))))
theorem ok_Frogs_d_init {P : Program} {w : World} {K : PySem.W.Frag} {mg : Str → Option Value} {base : Heap} (T : Txt w K mg)  : O_Frogs_d_init P w K mg base := by
  obtain ⟨fd, X⟩ := T.d_Frogs_d_init
  refine ⟨fd, X, X.ok sc_Frogs_d_init (fun vs H Q E h => len_Frogs_d_init h) (fun cdv A outer s H vs Q E hr h => ⟨t_Frogs_d_init K E, ?_, pure_Frogs_d_init T.FFrogs T.FSIGNS vs H Q E h⟩)⟩
  exact (pss_cons (ps_if (PW.pt (pw_or (pt_cmpR op_notTyB (pe_callTy call_type1 rfl T.z_type (by decide +kernel) (pa_cons (pv 1) pa_nil)) (pe_bltn rfl T.z_str (by decide +kernel) rfl) (nomark _)) (pw_or1 (pt_cmpR op_gt (pe_callB cr_lenS rfl T.z_len (by decide +kernel) (pa_cons (pv 1) pa_nil)) (C8.pe_gc rfl (cst_ok T.c_MOST_PLACES)) (nomark _))))) (pss_one (ps_raise rfl (takes_of rfl rfl rfl rfl) (pmk_own PySem.F.excBase_ValueError T.x_BadValue.1 T.g_BadValue T.x_BadValue.2.1 (raises_own T.x_BadValue.2.2.1 T.x_BadValue.2.2.2) (by exact rfl)))) pss_nil)
      (pss_cons (ps_if (pt_not (pt_val (pe_callB (cr_all rfl) rfl T.z_all (by decide +kernel) (pa_cons (pe_lc (own := [("sign", 2)]) (g := (gName 2)) (tt := tYes) rfl sc_Frogs_d_init.nd (pi_str (pv 1)) (blkOk_by (N := R_Frogs_d_init) (sc := defScope s_Frogs_d_init) (by decide +kernel)) (fun _ _ _ _ _ => (pg_name (i := 2) sc_Frogs_d_init.nd rfl (Or.inl rfl))) (fun _ _ _ _ _ => pts_nil) (fun _ _ _ _ _ => (pe_cmpR op_in_seq (pv 2) (C8.pe_gc rfl ⟨_, T.g_SIGNS, rfl⟩) (by rfl)))) pa_nil)))) (pss_one (ps_raise rfl (takes_of rfl rfl rfl rfl) (pmk_own PySem.F.excBase_ValueError T.x_BadValue.1 T.g_BadValue T.x_BadValue.2.1 (raises_own T.x_BadValue.2.2.1 T.x_BadValue.2.2.2) (by exact rfl)))) pss_nil)
      (pss_one (ps_fld (pv 0) (pv 1) rfl))))
theorem ok_law_frogs {P : Program} {w : World} {K : PySem.W.Frag} {mg : Str → Option Value} {base : Heap} (T : Txt w K mg) (D_Frogs_d_init : O_Frogs_d_init P w K mg base) (D_law_draw : O_law_draw P w K mg base) : O_law_frogs P w K mg base := by
  obtain ⟨fd_Frogs_d_init, X_Frogs_d_init, G_Frogs_d_init⟩ := D_Frogs_d_init.ex
  have K_Frogs_d_init := X_Frogs_d_init.kp
  have B_Frogs_d_init := X_Frogs_d_init.bindsN (ps := ["self", "line"]) fun _ _ _ _ _ _ us hl => match us, hl with | [_, _], _ => rfl
  have V_Frogs_d_init : Vals [] [] := .nil
  obtain ⟨fd_law_draw, X_law_draw, G_law_draw⟩ := D_law_draw.ex
  have K_law_draw := X_law_draw.kp
  have B_law_draw := X_law_draw.bindsN (ps := ["tape", "size"]) fun _ _ _ _ _ _ us hl => match us, hl with | [_, _], _ => rfl
  have V_law_draw : Vals [] [] := .nil
  obtain ⟨fd, X⟩ := T.d_law_frogs
  refine ⟨fd, X, X.ok sc_law_frogs (fun vs H Q E h => len_law_frogs h) (fun cdv A outer s H vs Q E hr h => ⟨t_law_frogs K E, PSs.nox ?_, pure_law_frogs vs H Q E h⟩)⟩
  exact (pss_one (ps_ret (pe_make T.mk_Frogs G_Frogs_d_init (hr.mono (by decide)) rfl T.g_Frogs B_Frogs_d_init V_Frogs_d_init passL (pa_cons (pe_bm PySem.F.plainAttrs_str PySem.F.slot_str_join PySem.F.type_str_join mt_joinS pe_str (pa_cons (pe_lc (own := [("k", 1)]) (g := (gName 1)) (tt := tYes) rfl sc_law_frogs.nd (pi_range1 rfl T.z_range (pa_cons (pe_call G_law_draw (hr.mono (by decide)) rfl T.g__law_draw K_law_draw B_law_draw V_law_draw pass0 (pa_cons (pv 0) (pa_cons pe_int pa_nil))) pa_nil)) (blkOk_by (N := R_law_frogs) (sc := defScope s_law_frogs) (by decide +kernel)) (fun _ _ _ _ _ => (pg_name (i := 1) sc_law_frogs.nd rfl (Or.inl rfl))) (fun _ _ _ _ _ => pts_nil) (fun _ _ _ _ _ => (pe_ix ix_str pe_str (pe_call G_law_draw (hr.mono (by decide)) rfl T.g__law_draw K_law_draw B_law_draw V_law_draw pass0 (pa_cons (pv 0) (pa_cons pe_int pa_nil))) (fun _ _ => rfl)))) pa_nil)) pa_nil))))
theorem ok_check_cake {P : Program} {w : World} {K : PySem.W.Frag} {mg : Str → Option Value} {base : Heap} (T : Txt w K mg) (D_is_whole : O_is_whole P w K mg base) : O_check_cake P w K mg base := by
  obtain ⟨fd_is_whole, X_is_whole, G_is_whole⟩ := D_is_whole.ex
  have K_is_whole := X_is_whole.kp
  have B_is_whole := X_is_whole.bindsN (ps := ["thing", "least", "most"]) fun _ _ _ _ _ _ us hl => match us, hl with | [_, _, _], _ => rfl
  have V_is_whole : Vals [] [] := .nil
  obtain ⟨fd, X⟩ := T.d_check_cake
  refine ⟨fd, X, X.ok sc_check_cake (fun vs H Q E h => len_check_cake h) (fun cdv A outer s H vs Q E hr h => ⟨t_check_cake K E, ?_, pure_check_cake vs H Q E h⟩)⟩
  exact (pss_cons (ps_if (PW.pt (pw_or (pt_cmpR op_notTyB (pe_callTy call_type1 rfl T.z_type (by decide +kernel) (pa_cons (pv 0) pa_nil)) (pe_bltn rfl T.z_tuple (by decide +kernel) rfl) (nomark _)) (pw_or1 (pt_cmpR op_ne (pe_callB cr_lenQ rfl T.z_len (by decide +kernel) (pa_cons (pv 0) pa_nil)) pe_int (nomark _))))) (pss_one (ps_raise rfl (takes_of rfl rfl rfl rfl) (pmk_own PySem.F.excBase_ValueError T.x_BadValue.1 T.g_BadValue T.x_BadValue.2.1 (raises_own T.x_BadValue.2.2.1 T.x_BadValue.2.2.2) (by exact rfl)))) pss_nil)
      (pss_one (ps_for (passes_of rfl) rfl (pi_tup (pv 0)) (pg_name (i := 1) sc_check_cake.nd rfl (Or.inl rfl))
      (pss_one (ps_if (pt_not (pt_val (pe_call G_is_whole (hr.mono (by decide)) rfl T.g_is_whole K_is_whole B_is_whole V_is_whole pass0 (pa_cons (pv 1) (pa_cons pe_int (pa_cons (C8.pe_gc rfl (cst_ok T.c_MOST_LENGTH)) pa_nil)))))) (pss_one (ps_raise rfl (takes_of rfl rfl rfl rfl) (pmk_own PySem.F.excBase_ValueError T.x_BadValue.1 T.g_BadValue T.x_BadValue.2.1 (raises_own T.x_BadValue.2.2.1 T.x_BadValue.2.2.2) (by exact rfl)))) pss_nil)))))
theorem ok_Cakes_d_init {P : Program} {w : World} {K : PySem.W.Frag} {mg : Str → Option Value} {base : Heap} (T : Txt w K mg) (D_check_cake : O_check_cake P w K mg base) : O_Cakes_d_init P w K mg base := by
  obtain ⟨fd_check_cake, X_check_cake, G_check_cake⟩ := D_check_cake.ex
  have K_check_cake := X_check_cake.kp
  have B_check_cake := X_check_cake.bindsN (ps := ["cake"]) fun _ _ _ _ _ _ us hl => match us, hl with | [_], _ => rfl
  have V_check_cake : Vals [] [] := .nil
  obtain ⟨fd, X⟩ := T.d_Cakes_d_init
  refine ⟨fd, X, X.ok sc_Cakes_d_init (fun vs H Q E h => len_Cakes_d_init h) (fun cdv A outer s H vs Q E hr h => ⟨t_Cakes_d_init K E, ?_, pure_Cakes_d_init T.FCakes vs H Q E h⟩)⟩
  exact (pss_cons (ps_if (pt_cmpR op_notTyB (pe_callTy call_type1 rfl T.z_type (by decide +kernel) (pa_cons (pv 1) pa_nil)) (pe_bltn rfl T.z_list (by decide +kernel) rfl) (nomark _)) (pss_one (ps_raise rfl (takes_of rfl rfl rfl rfl) (pmk_own PySem.F.excBase_ValueError T.x_BadValue.1 T.g_BadValue T.x_BadValue.2.1 (raises_own T.x_BadValue.2.2.1 T.x_BadValue.2.2.2) (by exact rfl)))) pss_nil)
      (pss_cons (ps_for (passes_of rfl) rfl (pi_list (pv 1)) (pg_name (i := 2) sc_Cakes_d_init.nd rfl (Or.inl rfl))
      (pss_one (ps_expr (pe_call G_check_cake (hr.mono (by decide)) rfl T.g__check_cake K_check_cake B_check_cake V_check_cake (passes_call (takes_of rfl rfl rfl rfl) fun _ _ _ _ z => z) (pa_cons (pv 2) pa_nil)))))
      (pss_cons (ps_if (pt_cmpR op_gt (pe_callB (cr_sum rfl) rfl T.z_sum (by decide +kernel) (pa_cons (pe_lc (own := [("rows", 3), ("columns", 4)]) (g := (gTup K 2 (gCons (gName 3) (gCons (gName 4) gNil)))) (tt := tYes) rfl sc_Cakes_d_init.nd (pi_list (pv 1)) (blkOk_by (N := R_Cakes_d_init) (sc := defScope s_Cakes_d_init) (by decide +kernel)) (fun _ _ _ _ _ => (pg_tup rfl (pgs_cons (pg_name (i := 3) sc_Cakes_d_init.nd rfl (Or.inl rfl)) (pgs_cons (pg_name (i := 4) sc_Cakes_d_init.nd rfl (Or.inl rfl)) pgs_nil)))) (fun _ _ _ _ _ => pts_nil) (fun _ _ _ _ _ => (pe_op op_mulW (pv 3) (pv 4)))) pa_nil)) (C8.pe_gc rfl (cst_ok T.c_MOST_SQUARES)) (nomark _)) (pss_one (ps_raise rfl (takes_of rfl rfl rfl rfl) (pmk_own PySem.F.excBase_ValueError T.x_BadValue.1 T.g_BadValue T.x_BadValue.2.1 (raises_own T.x_BadValue.2.2.1 T.x_BadValue.2.2.2) (by exact rfl)))) pss_nil)
      (pss_one (ps_fld (pv 0) (pe_callTy cr_tupL rfl T.z_tuple (by decide +kernel) (pa_cons (pv 1) pa_nil)) rfl)))))
theorem ok_law_cakes {P : Program} {w : World} {K : PySem.W.Frag} {mg : Str → Option Value} {base : Heap} (T : Txt w K mg) (D_law_draw : O_law_draw P w K mg base) (D_Cakes_d_init : O_Cakes_d_init P w K mg base) : O_law_cakes P w K mg base := by
  obtain ⟨fd_law_draw, X_law_draw, G_law_draw⟩ := D_law_draw.ex
  have K_law_draw := X_law_draw.kp
  have B_law_draw := X_law_draw.bindsN (ps := ["tape", "size"]) fun _ _ _ _ _ _ us hl => match us, hl with | [_, _], _ => rfl
  have V_law_draw : Vals [] [] := .nil
  obtain ⟨fd_Cakes_d_init, X_Cakes_d_init, G_Cakes_d_init⟩ := D_Cakes_d_init.ex
  have K_Cakes_d_init := X_Cakes_d_init.kp
  have B_Cakes_d_init := X_Cakes_d_init.bindsN (ps := ["self", "cakes"]) fun _ _ _ _ _ _ us hl => match us, hl with | [_, _], _ => rfl
  have V_Cakes_d_init : Vals [] [] := .nil
  obtain ⟨fd, X⟩ := T.d_law_cakes
  refine ⟨fd, X, X.ok sc_law_cakes (fun vs H Q E h => len_law_cakes h) (fun cdv A outer s H vs Q E hr h => ⟨t_law_cakes K E, PSs.nox ?_, pure_law_cakes vs H Q E h⟩)⟩
  exact (pss_cons (ps_set (i := 1) sc_law_cakes.nd rfl (Or.inl rfl) (pe_lst pa_nil))
      (pss_cons (ps_for PassesOwn.never rfl (pi_range1 rfl T.z_range (pa_cons (pe_call G_law_draw (hr.mono (by decide)) rfl T.g__law_draw K_law_draw B_law_draw V_law_draw pass0 (pa_cons (pv 0) (pa_cons pe_int pa_nil))) pa_nil)) (pg_name (i := 2) sc_law_cakes.nd rfl (Or.inl rfl))
      (pss_one (ps_expr (pe_bm PySem.F.plainAttrs_list PySem.F.slot_list_append PySem.F.type_list_append mt_append (pv 1) (pa_cons (pe_tup (pa_cons (pe_op op_add pe_int (pe_call G_law_draw (hr.mono (by decide)) rfl T.g__law_draw K_law_draw B_law_draw V_law_draw pass0 (pa_cons (pv 0) (pa_cons pe_int pa_nil)))) (pa_cons (pe_op op_add (pe_op op_add pe_int (pe_call G_law_draw (hr.mono (by decide)) rfl T.g__law_draw K_law_draw B_law_draw V_law_draw pass0 (pa_cons (pv 0) (pa_cons pe_int pa_nil)))) (pe_callTy cr_intB rfl T.z_int (by decide +kernel) (pa_cons (pe_cmpR op_eq (pv 2) pe_int (nomark _)) pa_nil))) pa_nil))) pa_nil)))))
      (pss_one (ps_ret (pe_make T.mk_Cakes G_Cakes_d_init (hr.mono (by decide)) rfl T.g_Cakes B_Cakes_d_init V_Cakes_d_init passL (pa_cons (pv 1) pa_nil))))))
theorem ok_check_row {P : Program} {w : World} {K : PySem.W.Frag} {mg : Str → Option Value} {base : Heap} (T : Txt w K mg) (D_is_whole : O_is_whole P w K mg base) : O_check_row P w K mg base := by
  obtain ⟨fd_is_whole, X_is_whole, G_is_whole⟩ := D_is_whole.ex
  have K_is_whole := X_is_whole.kp
  have B_is_whole := X_is_whole.bindsN (ps := ["thing", "least", "most"]) fun _ _ _ _ _ _ us hl => match us, hl with | [_, _, _], _ => rfl
  have V_is_whole : Vals [] [] := .nil
  obtain ⟨fd, X⟩ := T.d_check_row
  refine ⟨fd, X, X.ok sc_check_row (fun vs H Q E h => len_check_row h) (fun cdv A outer s H vs Q E hr h => ⟨t_check_row K E, ?_, pure_check_row vs H Q E h⟩)⟩
  exact (pss_cons (ps_if (PW.pt (pw_or (pt_cmpR op_notTyB (pe_callTy call_type1 rfl T.z_type (by decide +kernel) (pa_cons (pv 0) pa_nil)) (pe_bltn rfl T.z_tuple (by decide +kernel) rfl) (nomark _)) (pw_or1 (pt_cmpR op_ne (pe_callB cr_lenQ rfl T.z_len (by decide +kernel) (pa_cons (pv 0) pa_nil)) pe_int (nomark _))))) (pss_one (ps_raise rfl (takes_of rfl rfl rfl rfl) (pmk_own PySem.F.excBase_ValueError T.x_BadValue.1 T.g_BadValue T.x_BadValue.2.1 (raises_own T.x_BadValue.2.2.1 T.x_BadValue.2.2.2) (by exact rfl)))) pss_nil)
      (pss_one (ps_for (passes_of rfl) rfl (pi_tup (pv 0)) (pg_name (i := 3) sc_check_row.nd rfl (Or.inl rfl))
      (pss_cons (ps_if (pt_cmpR op_notTyB (pe_callTy call_type1 rfl T.z_type (by decide +kernel) (pa_cons (pv 3) pa_nil)) (pe_bltn rfl T.z_tuple (by decide +kernel) rfl) (nomark _)) (pss_one (ps_raise rfl (takes_of rfl rfl rfl rfl) (pmk_own PySem.F.excBase_ValueError T.x_BadValue.1 T.g_BadValue T.x_BadValue.2.1 (raises_own T.x_BadValue.2.2.1 T.x_BadValue.2.2.2) (by exact rfl)))) pss_nil)
      (pss_cons (ps_set (i := 4) sc_check_row.nd rfl (Or.inl rfl) (pe_op op_add (pv 1) pe_int))
      (pss_one (ps_for (passes_of rfl) rfl (pi_tup (pv 3)) (pg_name (i := 5) sc_check_row.nd rfl (Or.inl rfl))
      (pss_cons (ps_if (pt_not (pt_val (pe_call G_is_whole (hr.mono (by decide)) rfl T.g_is_whole K_is_whole B_is_whole V_is_whole pass0 (pa_cons (pv 5) (pa_cons (pv 4) (pa_cons (pe_op op_sub (pv 2) pe_int) pa_nil)))))) (pss_one (ps_raise rfl (takes_of rfl rfl rfl rfl) (pmk_own PySem.F.excBase_ValueError T.x_BadValue.1 T.g_BadValue T.x_BadValue.2.1 (raises_own T.x_BadValue.2.2.1 T.x_BadValue.2.2.2) (by exact rfl)))) pss_nil)
      (pss_one (ps_set (i := 4) sc_check_row.nd rfl (Or.inl rfl) (pe_op op_add (pv 5) pe_int)))))))))))
theorem ok_Table_d_init {P : Program} {w : World} {K : PySem.W.Frag} {mg : Str → Option Value} {base : Heap} (T : Txt w K mg) (D_check_row : O_check_row P w K mg base) (D_is_whole : O_is_whole P w K mg base) : O_Table_d_init P w K mg base := by
  obtain ⟨fd_check_row, X_check_row, G_check_row⟩ := D_check_row.ex
  have K_check_row := X_check_row.kp
  have B_check_row := X_check_row.bindsN (ps := ["row", "at", "count"]) fun _ _ _ _ _ _ us hl => match us, hl with | [_, _, _], _ => rfl
  have V_check_row : Vals [] [] := .nil
  obtain ⟨fd_is_whole, X_is_whole, G_is_whole⟩ := D_is_whole.ex
  have K_is_whole := X_is_whole.kp
  have B_is_whole := X_is_whole.bindsN (ps := ["thing", "least", "most"]) fun _ _ _ _ _ _ us hl => match us, hl with | [_, _, _], _ => rfl
  have V_is_whole : Vals [] [] := .nil
  obtain ⟨fd, X⟩ := T.d_Table_d_init
  refine ⟨fd, X, X.ok sc_Table_d_init (fun vs H Q E h => len_Table_d_init h) (fun cdv A outer s H vs Q E hr h => ⟨t_Table_d_init K E, ?_, pure_Table_d_init T.FTable vs H Q E h⟩)⟩
  exact (pss_cons (ps_if (PW.pt (pw_or (pt_cmpR op_notTyB (pe_callTy call_type1 rfl T.z_type (by decide +kernel) (pa_cons (pv 1) pa_nil)) (pe_bltn rfl T.z_list (by decide +kernel) rfl) (nomark _)) (pw_or1 (pt_not (pt_chain op_le op_le pe_int (pe_callB cr_lenQ rfl T.z_len (by decide +kernel) (pa_cons (pv 1) pa_nil)) (C8.pe_gc rfl (cst_ok T.c_MOST_ROWS))))))) (pss_one (ps_raise rfl (takes_of rfl rfl rfl rfl) (pmk_own PySem.F.excBase_ValueError T.x_BadValue.1 T.g_BadValue T.x_BadValue.2.1 (raises_own T.x_BadValue.2.2.1 T.x_BadValue.2.2.2) (by exact rfl)))) pss_nil)
      (pss_cons (ps_for (passes_of rfl) rfl (pi_enum rfl T.z_enumerate (pa_cons (pv 1) pa_nil)) (pg_tup rfl (pgs_cons (pg_name (i := 3) sc_Table_d_init.nd rfl (Or.inl rfl)) (pgs_cons (pg_name (i := 4) sc_Table_d_init.nd rfl (Or.inl rfl)) pgs_nil)))
      (pss_one (ps_expr (pe_call G_check_row (hr.mono (by decide)) rfl T.g__check_row K_check_row B_check_row V_check_row (passes_call (takes_of rfl rfl rfl rfl) fun _ _ _ _ z => z) (pa_cons (pv 4) (pa_cons (pv 3) (pa_cons (pe_callB cr_lenQ rfl T.z_len (by decide +kernel) (pa_cons (pv 1) pa_nil)) pa_nil)))))))
      (pss_cons (ps_if (pt_not (pt_val (pe_call G_is_whole (hr.mono (by decide)) rfl T.g_is_whole K_is_whole B_is_whole V_is_whole pass0 (pa_cons (pv 2) (pa_cons pe_int (pa_cons (pe_op op_sub (pe_callB cr_lenQ rfl T.z_len (by decide +kernel) (pa_cons (pv 1) pa_nil)) pe_int) pa_nil)))))) (pss_one (ps_raise rfl (takes_of rfl rfl rfl rfl) (pmk_own PySem.F.excBase_ValueError T.x_BadValue.1 T.g_BadValue T.x_BadValue.2.1 (raises_own T.x_BadValue.2.2.1 T.x_BadValue.2.2.2) (by exact rfl)))) pss_nil)
      (pss_cons (ps_fld (pv 0) (pe_callTy cr_tupL rfl T.z_tuple (by decide +kernel) (pa_cons (pv 1) pa_nil)) rfl)
      (pss_one (ps_fld (pv 0) (pv 2) rfl))))))
theorem ok_law_table {P : Program} {w : World} {K : PySem.W.Frag} {mg : Str → Option Value} {base : Heap} (T : Txt w K mg) (D_law_draw : O_law_draw P w K mg base) (D_Table_d_init : O_Table_d_init P w K mg base) : O_law_table P w K mg base := by
  obtain ⟨fd_law_draw, X_law_draw, G_law_draw⟩ := D_law_draw.ex
  have K_law_draw := X_law_draw.kp
  have B_law_draw := X_law_draw.bindsN (ps := ["tape", "size"]) fun _ _ _ _ _ _ us hl => match us, hl with | [_, _], _ => rfl
  have V_law_draw : Vals [] [] := .nil
  obtain ⟨fd_Table_d_init, X_Table_d_init, G_Table_d_init⟩ := D_Table_d_init.ex
  have K_Table_d_init := X_Table_d_init.kp
  have B_Table_d_init := X_Table_d_init.bindsN (ps := ["self", "rows", "place"]) fun _ _ _ _ _ _ us hl => match us, hl with | [_, _, _], _ => rfl
  have V_Table_d_init : Vals [] [] := .nil
  obtain ⟨fd, X⟩ := T.d_law_table
  refine ⟨fd, X, X.ok sc_law_table (fun vs H Q E h => len_law_table h) (fun cdv A outer s H vs Q E hr h => ⟨t_law_table K E, PSs.nox ?_, pure_law_table vs H Q E h⟩)⟩
  exact (pss_cons (ps_set (i := 1) sc_law_table.nd rfl (Or.inl rfl) (pe_op op_add pe_int (pe_call G_law_draw (hr.mono (by decide)) rfl T.g__law_draw K_law_draw B_law_draw V_law_draw pass0 (pa_cons (pv 0) (pa_cons pe_int pa_nil)))))
      (pss_cons (ps_set (i := 2) sc_law_table.nd rfl (Or.inl rfl) (pe_lst pa_nil))
      (pss_cons (ps_for PassesOwn.never rfl (pi_range1 rfl T.z_range (pa_cons (pv 1) pa_nil)) (pg_name (i := 3) sc_law_table.nd rfl (Or.inl rfl))
      (pss_cons (ps_set (i := 4) sc_law_table.nd rfl (Or.inl rfl) (pe_lst pa_nil))
      (pss_cons (ps_for PassesOwn.never rfl (pi_range1 rfl T.z_range (pa_cons pe_int pa_nil)) (pg_name (i := 5) sc_law_table.nd rfl (Or.inl rfl))
      (pss_one (ps_expr (pe_bm PySem.F.plainAttrs_list PySem.F.slot_list_append PySem.F.type_list_append mt_append (pv 4) (pa_cons (pe_callTy cr_tupL rfl T.z_tuple (by decide +kernel) (pa_cons (pe_lc (own := [("goal", 6)]) (g := (gName 6)) (tt := (tTest (tOp rEq (tCall (sp_law_draw K) [] E0 (tCons (tVar 0) (tCons (tC (.int 3)) tNil))) (tC (.int 0))))) rfl sc_law_table.nd (pi_range2 rfl T.z_range (pa_cons (pe_op op_add (pv 3) pe_int) (pa_cons (pv 1) pa_nil))) (blkOk_by (N := R_law_table) (sc := defScope s_law_table) (by decide +kernel)) (fun _ _ _ _ _ => (pg_name (i := 6) sc_law_table.nd rfl (Or.inl rfl))) (fun _ _ _ _ _ => (pts_one (pt_cmpR op_eq (pe_call G_law_draw (hr.mono (by decide)) rfl T.g__law_draw K_law_draw B_law_draw V_law_draw pass0 (pa_cons (pv 0) (pa_cons pe_int pa_nil))) pe_int (nomark _)))) (fun _ _ _ _ _ => (pv 6))) pa_nil)) pa_nil)))))
      (pss_one (ps_expr (pe_bm PySem.F.plainAttrs_list PySem.F.slot_list_append PySem.F.type_list_append mt_append (pv 2) (pa_cons (pe_tup (pa_cons (pe_ix ix_list (pv 4) pe_int (fun _ _ => rfl)) (pa_cons (pe_ix ix_list (pv 4) pe_int (fun _ _ => rfl)) pa_nil))) pa_nil)))))))
      (pss_one (ps_ret (pe_make T.mk_Table G_Table_d_init (hr.mono (by decide)) rfl T.g_Table B_Table_d_init V_Table_d_init passL (pa_cons (pv 2) (pa_cons (pe_call G_law_draw (hr.mono (by decide)) rfl T.g__law_draw K_law_draw B_law_draw V_law_draw pass0 (pa_cons (pv 0) (pa_cons (pv 1) pa_nil))) pa_nil))))))))
theorem ok_law_board {P : Program} {w : World} {K : PySem.W.Frag} {mg : Str → Option Value} {base : Heap} (T : Txt w K mg) (D_law_draw : O_law_draw P w K mg base) (D_law_heaps : O_law_heaps P w K mg base) (D_law_hedge : O_law_hedge P w K mg base) (D_law_floor : O_law_floor P w K mg base) (D_law_frogs : O_law_frogs P w K mg base) (D_law_cakes : O_law_cakes P w K mg base) (D_law_table : O_law_table P w K mg base) : O_law_board P w K mg base := by
  obtain ⟨fd_law_draw, X_law_draw, G_law_draw⟩ := D_law_draw.ex
  have K_law_draw := X_law_draw.kp
  have B_law_draw := X_law_draw.bindsN (ps := ["tape", "size"]) fun _ _ _ _ _ _ us hl => match us, hl with | [_, _], _ => rfl
  have V_law_draw : Vals [] [] := .nil
  obtain ⟨fd_law_heaps, X_law_heaps, G_law_heaps⟩ := D_law_heaps.ex
  have K_law_heaps := X_law_heaps.kp
  have B_law_heaps := X_law_heaps.bindsN (ps := ["tape"]) fun _ _ _ _ _ _ us hl => match us, hl with | [_], _ => rfl
  have V_law_heaps : Vals [] [] := .nil
  obtain ⟨fd_law_hedge, X_law_hedge, G_law_hedge⟩ := D_law_hedge.ex
  have K_law_hedge := X_law_hedge.kp
  have B_law_hedge := X_law_hedge.bindsN (ps := ["tape"]) fun _ _ _ _ _ _ us hl => match us, hl with | [_], _ => rfl
  have V_law_hedge : Vals [] [] := .nil
  obtain ⟨fd_law_floor, X_law_floor, G_law_floor⟩ := D_law_floor.ex
  have K_law_floor := X_law_floor.kp
  have B_law_floor := X_law_floor.bindsN (ps := ["tape"]) fun _ _ _ _ _ _ us hl => match us, hl with | [_], _ => rfl
  have V_law_floor : Vals [] [] := .nil
  obtain ⟨fd_law_frogs, X_law_frogs, G_law_frogs⟩ := D_law_frogs.ex
  have K_law_frogs := X_law_frogs.kp
  have B_law_frogs := X_law_frogs.bindsN (ps := ["tape"]) fun _ _ _ _ _ _ us hl => match us, hl with | [_], _ => rfl
  have V_law_frogs : Vals [] [] := .nil
  obtain ⟨fd_law_cakes, X_law_cakes, G_law_cakes⟩ := D_law_cakes.ex
  have K_law_cakes := X_law_cakes.kp
  have B_law_cakes := X_law_cakes.bindsN (ps := ["tape"]) fun _ _ _ _ _ _ us hl => match us, hl with | [_], _ => rfl
  have V_law_cakes : Vals [] [] := .nil
  obtain ⟨fd_law_table, X_law_table, G_law_table⟩ := D_law_table.ex
  have K_law_table := X_law_table.kp
  have B_law_table := X_law_table.bindsN (ps := ["tape"]) fun _ _ _ _ _ _ us hl => match us, hl with | [_], _ => rfl
  have V_law_table : Vals [] [] := .nil
  obtain ⟨fd, X⟩ := T.d_law_board
  refine ⟨fd, X, X.ok sc_law_board (fun vs H Q E h => len_law_board h) (fun cdv A outer s H vs Q E hr h => ⟨t_law_board K E, PSs.nox ?_, pure_law_board vs H Q E h⟩)⟩
  exact (pss_cons (ps_set (i := 1) sc_law_board.nd rfl (Or.inl rfl) (pe_call G_law_draw (hr.mono (by decide)) rfl T.g__law_draw K_law_draw B_law_draw V_law_draw pass0 (pa_cons (pv 0) (pa_cons pe_int pa_nil))))
      (pss_cons (ps_if (pt_cmpR op_eq (pv 1) pe_int (nomark _)) (pss_one (ps_ret (pe_call G_law_heaps (hr.mono (by decide)) rfl T.g__law_heaps K_law_heaps B_law_heaps V_law_heaps pass0 (pa_cons (pv 0) pa_nil)))) pss_nil)
      (pss_cons (ps_if (pt_cmpR op_eq (pv 1) pe_int (nomark _)) (pss_one (ps_ret (pe_call G_law_hedge (hr.mono (by decide)) rfl T.g__law_hedge K_law_hedge B_law_hedge V_law_hedge pass0 (pa_cons (pv 0) pa_nil)))) pss_nil)
      (pss_cons (ps_if (pt_cmpR op_eq (pv 1) pe_int (nomark _)) (pss_one (ps_ret (pe_call G_law_floor (hr.mono (by decide)) rfl T.g__law_floor K_law_floor B_law_floor V_law_floor pass0 (pa_cons (pv 0) pa_nil)))) pss_nil)
      (pss_cons (ps_if (pt_cmpR op_eq (pv 1) pe_int (nomark _)) (pss_one (ps_ret (pe_call G_law_frogs (hr.mono (by decide)) rfl T.g__law_frogs K_law_frogs B_law_frogs V_law_frogs pass0 (pa_cons (pv 0) pa_nil)))) pss_nil)
      (pss_cons (ps_if (pt_cmpR op_eq (pv 1) pe_int (nomark _)) (pss_one (ps_ret (pe_call G_law_cakes (hr.mono (by decide)) rfl T.g__law_cakes K_law_cakes B_law_cakes V_law_cakes pass0 (pa_cons (pv 0) pa_nil)))) pss_nil)
      (pss_one (ps_ret (pe_call G_law_table (hr.mono (by decide)) rfl T.g__law_table K_law_table B_law_table V_law_table pass0 (pa_cons (pv 0) pa_nil))))))))))
theorem ok_Match_d_init {P : Program} {w : World} {K : PySem.W.Frag} {mg : Str → Option Value} {base : Heap} (T : Txt w K mg)  : O_Match_d_init P w K mg base := by
  obtain ⟨fd, X⟩ := T.d_Match_d_init
  refine ⟨fd, X, X.ok sc_Match_d_init (fun vs H Q E h => len_Match_d_init h) (fun cdv A outer s H vs Q E hr h => ⟨t_Match_d_init K E, ?_, pure_Match_d_init T.FMatch T.FSIDES vs H Q E h⟩)⟩
  exact (pss_cons (ps_if (PW.pt (pw_or (pt_cmpR op_notTyB (pe_callTy call_type1 rfl T.z_type (by decide +kernel) (pa_cons (pv 2) pa_nil)) (pe_bltn rfl T.z_str (by decide +kernel) rfl) (nomark _)) (pw_or1 (pt_cmpR op_notIn_seq (pv 2) (C8.pe_gc rfl ⟨_, T.g_SIDES, rfl⟩) (by rfl))))) (pss_one (ps_raise rfl (takes_of rfl rfl rfl rfl) (pmk_own PySem.F.excBase_ValueError T.x_BadValue.1 T.g_BadValue T.x_BadValue.2.1 (raises_own T.x_BadValue.2.2.1 T.x_BadValue.2.2.2) (by exact rfl)))) pss_nil)
      (pss_cons (ps_fld (pv 0) (pv 2) rfl)
      (pss_cons (ps_fld (pv 0) (pe_lst (pa_cons (pv 1) pa_nil)) rfl)
      (pss_one (ps_fld (pv 0) (pe_lst pa_nil) rfl)))))
theorem ok_law_bad_side {P : Program} {w : World} {K : PySem.W.Frag} {mg : Str → Option Value} {base : Heap} (T : Txt w K mg) (D_Match_d_init : O_Match_d_init P w K mg base) : O_law_bad_side P w K mg base := by
  obtain ⟨fd_Match_d_init, X_Match_d_init, G_Match_d_init⟩ := D_Match_d_init.ex
  have K_Match_d_init := X_Match_d_init.kp
  have B_Match_d_init := X_Match_d_init.bindsN (ps := ["self", "meeting", "first"]) fun _ _ _ _ _ _ us hl => match us, hl with | [_, _, _], _ => rfl
  have V_Match_d_init : Vals [] [] := .nil
  obtain ⟨fd, X⟩ := T.d_law_bad_side
  refine ⟨fd, X, X.ok sc_law_bad_side (fun vs H Q E h => len_law_bad_side h) (fun cdv A outer s H vs Q E hr h => ⟨t_law_bad_side K E, PSs.nox ?_, pure_law_bad_side T.FBadSide vs H Q E h⟩)⟩
  exact (pss_cons (ps_try_as (i := 2) (c := (.ref (He.ga K "BadValue"))) (tb := fun W => (tDrop (tMakeS (He.ga K "Match") (sp_Match_d_init K) [] (WE W) (tCons (tVar 0) (tCons (tVar 1) tNil))))) (ts := (fun a cls d => tWhen (cls = .ref (He.ga K "BadValue") ∧ d = none) (tRet (tAndV (tCB (rIsE K (He.ga K "BadValue") a) (tCons (tVar 2) (tCons (tC (.ref (He.ga K "PlayError"))) tNil))) (tNotV (tCB (rIsE K (He.ga K "BadValue") a) (tCons (tVar 2) (tCons (tC (.ref (He.ga K "NoMove"))) tNil)))))))) (Wout := fun _ _ _ _ => False) rfl rfl sc_law_bad_side.nd rfl rfl ⟨rfl, by decide, Or.inl T.g_BadValue⟩ takes0 (fun W pn xe tk _ => (pss_one (ps_expr (pe_makeS T.mk_Match G_Match_d_init (hr.mono (by decide)) rfl T.g_Match B_Match_d_init V_Match_d_init (fun σ => passAt tk σ) (pa_cons (pv 0) (pa_cons (pv 1) pa_nil)))))) (fun a oe cls d pn hz hf => pss_when fun hh => (pss_one (ps_ret (pe_and (pe_callB (call_isE T.xc_BadValue (zc_at hh hz) hf) rfl T.z_isinstance (by decide +kernel) (pa_cons (pv 2) (pa_cons (C8.pe_gc rfl ⟨_, T.g_PlayError, rfl⟩) pa_nil))) (pe_one (pe_not (pe_callB (call_isE T.xc_BadValue (zc_at hh hz) hf) rfl T.z_isinstance (by decide +kernel) (pa_cons (pv 2) (pa_cons (C8.pe_gc rfl ⟨_, T.g_NoMove, rfl⟩) pa_nil))))))))))
      (pss_one (ps_ret pe_bl)))
theorem ok_Heaps_m_moves {P : Program} {w : World} {K : PySem.W.Frag} {mg : Str → Option Value} {base : Heap} (T : Txt w K mg) (D_Heaps_d_init : O_Heaps_d_init P w K mg base) : O_Heaps_m_moves P w K mg base := by
  obtain ⟨fd_Heaps_d_init, X_Heaps_d_init, G_Heaps_d_init⟩ := D_Heaps_d_init.ex
  have K_Heaps_d_init := X_Heaps_d_init.kp
  have B_Heaps_d_init := X_Heaps_d_init.bindsN (ps := ["self", "sizes"]) fun _ _ _ _ _ _ us hl => match us, hl with | [_, _], _ => rfl
  have V_Heaps_d_init : Vals [] [] := .nil
  obtain ⟨fd, X⟩ := T.d_Heaps_m_moves
  refine ⟨fd, X, X.ok sc_Heaps_m_moves (fun vs H Q E h => len_Heaps_m_moves h) (fun cdv A outer s H vs Q E hr h => ⟨t_Heaps_m_moves K E, PSs.nox ?_, pure_Heaps_m_moves T.FHeaps vs H Q E h⟩)⟩
  exact (pss_cons (ps_set (i := 2) sc_Heaps_m_moves.nd rfl (Or.inl rfl) (pe_lst pa_nil))
      (pss_cons (ps_for PassesOwn.never rfl (pi_enumT rfl T.z_enumerate (pa_cons (pe_fld (pv 0) rfl) pa_nil)) (pg_tup rfl (pgs_cons (pg_name (i := 3) sc_Heaps_m_moves.nd rfl (Or.inl rfl)) (pgs_cons (pg_name (i := 4) sc_Heaps_m_moves.nd rfl (Or.inl rfl)) pgs_nil)))
      (pss_one (ps_for PassesOwn.never rfl (pi_range3 rfl T.z_range (pa_cons (pe_op op_sub (pv 4) pe_int) (pa_cons (pe_un un_neg pe_int) (pa_cons (pe_un un_neg pe_int) pa_nil)))) (pg_name (i := 5) sc_Heaps_m_moves.nd rfl (Or.inl rfl))
      (pss_one (ps_expr (pe_bm PySem.F.plainAttrs_list PySem.F.slot_list_append PySem.F.type_list_append mt_append (pv 2) (pa_cons (pe_make T.mk_Heaps G_Heaps_d_init (hr.mono (by decide)) rfl T.g_Heaps B_Heaps_d_init V_Heaps_d_init passL (pa_cons (pe_lst (StX.pa_star (pe_slice sl_tupA (pe_fld (pv 0) rfl) po_none (po_some (pv 3))) (pa_cons (pv 5) (StX.pa_star (pe_slice sl_tupA (pe_fld (pv 0) rfl) (po_some (pe_op op_add (pv 3) pe_int)) po_none) pa_nil)))) pa_nil)) pa_nil)))))))
      (pss_one (ps_ret (pv 2)))))
theorem ok_Hedge_m_value {P : Program} {w : World} {K : PySem.W.Frag} {mg : Str → Option Value} {base : Heap} (T : Txt w K mg)  : O_Hedge_m_value P w K mg base := by
  obtain ⟨fd, X⟩ := T.d_Hedge_m_value
  refine ⟨fd, X, X.ok sc_Hedge_m_value (fun vs H Q E h => len_Hedge_m_value h) (fun cdv A outer s H vs Q E hr h => ⟨t_Hedge_m_value K E, PSs.nox ?_, pure_Hedge_m_value T.FHedge vs H Q E h⟩)⟩
  exact (pss_one (ps_ret (pe_tup (pa_cons pe_str (pa_cons (pe_fld (pv 0) rfl) pa_nil)))))
theorem ok_Hedge_m_moves {P : Program} {w : World} {K : PySem.W.Frag} {mg : Str → Option Value} {base : Heap} (T : Txt w K mg) (D_Hedge_d_init : O_Hedge_d_init P w K mg base) (D_Hedge_m_value : O_Hedge_m_value P w K mg base) : O_Hedge_m_moves P w K mg base := by
  obtain ⟨fd_Hedge_d_init, X_Hedge_d_init, G_Hedge_d_init⟩ := D_Hedge_d_init.ex
  have K_Hedge_d_init := X_Hedge_d_init.kp
  have B_Hedge_d_init := X_Hedge_d_init.bindsN (ps := ["self", "edges"]) fun _ _ _ _ _ _ us hl => match us, hl with | [_, _], _ => rfl
  have V_Hedge_d_init : Vals [] [] := .nil
  obtain ⟨fd_Hedge_m_value, X_Hedge_m_value, G_Hedge_m_value⟩ := D_Hedge_m_value.ex
  have K_Hedge_m_value := X_Hedge_m_value.kp
  have B_Hedge_m_value := X_Hedge_m_value.bindsN (ps := ["self"]) fun _ _ _ _ _ _ us hl => match us, hl with | [_], _ => rfl
  have V_Hedge_m_value : Vals [] [] := .nil
  obtain ⟨fd, X⟩ := T.d_Hedge_m_moves
  refine ⟨fd, X, X.ok sc_Hedge_m_moves (fun vs H Q E h => len_Hedge_m_moves h) (fun cdv A outer s H vs Q E hr h => ⟨t_Hedge_m_moves P w K E, PSs.nox ?_, pure_Hedge_m_moves T.FHedge T.FCUTS vs H Q E h⟩)⟩
  exact (pss_cons (ps_set (i := 2) sc_Hedge_m_moves.nd rfl (Or.inl rfl) pe_nnew)
      (pss_cons (ps_for PassesOwn.never rfl (pi_enumT rfl T.z_enumerate (pa_cons (pe_fld (pv 0) rfl) pa_nil)) (pg_tup rfl (pgs_cons (pg_name (i := 3) sc_Hedge_m_moves.nd rfl (Or.inl rfl)) (pgs_cons (pg_name (i := 4) sc_Hedge_m_moves.nd rfl (Or.inl rfl)) pgs_nil)))
      (pss_one (ps_if (pt_cmpR op_in_seq (pe_ix ix_tup (pv 4) pe_int (fun _ _ => rfl)) (pe_ix (ix_kd T.kd_CUTS) (C8.pe_gc rfl ⟨_, T.g_CUTS, rfl⟩) (pv 1) (fun _ _ => rfl)) (by rfl)) (pss_cons (ps_set (i := 5) sc_Hedge_m_moves.nd rfl (Or.inl rfl) (pe_make T.mk_Hedge G_Hedge_d_init (hr.mono (by decide)) rfl T.g_Hedge B_Hedge_d_init V_Hedge_d_init passL (pa_cons (pe_lst (StX.pa_star (pe_slice sl_tupA (pe_fld (pv 0) rfl) po_none (po_some (pv 3))) (StX.pa_star (pe_slice sl_tupA (pe_fld (pv 0) rfl) (po_some (pe_op op_add (pv 3) pe_int)) po_none) pa_nil))) pa_nil)))
      (pss_one (ps_expr (pe_nsetd (hu9 hr) (pv 2) (pa_cons (pe_meth0 (pv 5) T.cl_Hedge T.mt_Hedge_value G_Hedge_m_value (hr.mono (by decide)) B_Hedge_m_value .nil pass0) (pa_cons (pv 5) pa_nil)))))) pss_nil)))
      (pss_one (ps_ret (pe_callTy (cr_listVw hr.hd) rfl T.z_list (by decide +kernel) (pa_cons (pe_nvals (pv 2)) pa_nil))))))
theorem ok_Floor_p_cells {P : Program} {w : World} {K : PySem.W.Frag} {mg : Str → Option Value} {base : Heap} (T : Txt w K mg)  : O_Floor_p_cells P w K mg base := by
  obtain ⟨fd, X⟩ := T.d_Floor_p_cells
  refine ⟨fd, X, X.ok sc_Floor_p_cells (fun vs H Q E h => len_Floor_p_cells h) (fun cdv A outer s H vs Q E hr h => ⟨t_Floor_p_cells K E, PSs.nox ?_, pure_Floor_p_cells T.FFloor vs H Q E h⟩)⟩
  exact (pss_one (ps_ret (pe_lc2 (own := [("row", 1), ("column", 2)]) (vs1 := [2]) (g := (gName 1)) (g1 := (gName 2)) (tt := tYes) (tt1 := tYes) rfl sc_Floor_p_cells.nd (pi_range1 rfl T.z_range (pa_cons (pe_callB cr_lenQ rfl T.z_len (by decide +kernel) (pa_cons (pe_fld (pv 0) rfl) pa_nil)) pa_nil)) (blkOk_by (N := R_Floor_p_cells) (sc := defScope s_Floor_p_cells) (by decide +kernel)) (by decide) (fun _ _ _ _ _ => (pg_name (i := 1) sc_Floor_p_cells.nd rfl (Or.inl rfl))) (fun _ _ _ _ _ => pts_nil) (fun _ _ _ _ _ => (pi_range1 rfl T.z_range (pa_cons (pe_callB cr_lenS rfl T.z_len (by decide +kernel) (pa_cons (pe_ix ix_tup (pe_fld (pv 0) rfl) pe_int (fun _ _ => rfl)) pa_nil)) pa_nil))) (fun _ _ _ _ _ => (pg_name (i := 2) sc_Floor_p_cells.nd rfl (Or.inl rfl))) (fun _ _ _ _ _ => pts_nil) (fun _ _ _ _ _ => (pe_tup (pa_cons (pv 1) (pa_cons (pv 2) pa_nil)))))))
theorem ok_Floor_p_is_free {P : Program} {w : World} {K : PySem.W.Frag} {mg : Str → Option Value} {base : Heap} (T : Txt w K mg)  : O_Floor_p_is_free P w K mg base := by
  obtain ⟨fd, X⟩ := T.d_Floor_p_is_free
  refine ⟨fd, X, X.ok sc_Floor_p_is_free (fun vs H Q E h => len_Floor_p_is_free h) (fun cdv A outer s H vs Q E hr h => ⟨t_Floor_p_is_free K E, PSs.nox ?_, pure_Floor_p_is_free T.FFloor vs H Q E h⟩)⟩
  exact (pss_cons (ps_if (PW.pt (pw_and (pt_chain op_le op_lt pe_int (pv 1) (pe_callB cr_lenQ rfl T.z_len (by decide +kernel) (pa_cons (pe_fld (pv 0) rfl) pa_nil))) (pw_and1 (pt_chain op_le op_lt pe_int (pv 2) (pe_callB cr_lenS rfl T.z_len (by decide +kernel) (pa_cons (pe_ix ix_tup (pe_fld (pv 0) rfl) pe_int (fun _ _ => rfl)) pa_nil)))))) (pss_one (ps_ret (pe_cmpR op_eq (pe_ix ix_str (pe_ix ix_tup (pe_fld (pv 0) rfl) (pv 1) (fun _ _ => rfl)) (pv 2) (fun _ _ => rfl)) (C8.pe_gc rfl (cst_okS T.c_FREE_floor)) (nomark _)))) pss_nil)
      (pss_one (ps_ret pe_bl)))
theorem ok_Floor_p_covered {P : Program} {w : World} {K : PySem.W.Frag} {mg : Str → Option Value} {base : Heap} (T : Txt w K mg) (D_Floor_d_init : O_Floor_d_init P w K mg base) : O_Floor_p_covered P w K mg base := by
  obtain ⟨fd_Floor_d_init, X_Floor_d_init, G_Floor_d_init⟩ := D_Floor_d_init.ex
  have K_Floor_d_init := X_Floor_d_init.kp
  have B_Floor_d_init := X_Floor_d_init.bindsN (ps := ["self", "rows"]) fun _ _ _ _ _ _ us hl => match us, hl with | [_, _], _ => rfl
  have V_Floor_d_init : Vals [] [] := .nil
  obtain ⟨fd, X⟩ := T.d_Floor_p_covered
  refine ⟨fd, X, X.ok sc_Floor_p_covered (fun vs H Q E h => len_Floor_p_covered h) (fun cdv A outer s H vs Q E hr h => ⟨t_Floor_p_covered K E, PSs.nox ?_, pure_Floor_p_covered T.FFloor vs H Q E h⟩)⟩
  exact (pss_cons (ps_setLc (i := 2) (own := [("row", 3)]) (g := (gName 3)) (tt := tYes) rfl sc_Floor_p_covered.nd rfl rfl (sw_true rfl rfl rfl (by decide +kernel)) (pi_tup (pe_fld (pv 0) rfl)) (blkOk_by (N := R_Floor_p_covered) (sc := defScope s_Floor_p_covered) (by decide +kernel)) (fun _ _ _ _ _ => (pg_name (i := 3) sc_Floor_p_covered.nd rfl (Or.inl rfl))) (fun _ _ _ _ _ => pts_nil) (fun _ _ _ _ _ => (pe_callTy (cr_listS rfl) rfl T.z_list (by decide +kernel) (pa_cons (pv 3) pa_nil))))
      (pss_cons (ps_for PassesOwn.never rfl (pi_list (pv 1)) (pg_tup rfl (pgs_cons (pg_name (i := 3) sc_Floor_p_covered.nd rfl (Or.inl rfl)) (pgs_cons (pg_name (i := 4) sc_Floor_p_covered.nd rfl (Or.inl rfl)) pgs_nil)))
      (pss_one (ps_asg (C8.pe_gc rfl (cst_okS T.c_COVERED)) (pg_sub (pe_ix ix_list (pv 2) (pv 3) (fun _ _ => rfl)) (pv 4) set_list))))
      (pss_one (ps_ret (pe_make T.mk_Floor G_Floor_d_init (hr.mono (by decide)) rfl T.g_Floor B_Floor_d_init V_Floor_d_init passL (pa_cons (pe_lc (own := [("row", 3)]) (g := (gName 3)) (tt := tYes) rfl sc_Floor_p_covered.nd (pi_list (pv 2)) (blkOk_by (N := R_Floor_p_covered) (sc := defScope s_Floor_p_covered) (by decide +kernel)) (fun _ _ _ _ _ => (pg_name (i := 3) sc_Floor_p_covered.nd rfl (Or.inl rfl))) (fun _ _ _ _ _ => pts_nil) (fun _ _ _ _ _ => (pe_bm PySem.F.plainAttrs_str PySem.F.slot_str_join PySem.F.type_str_join mt_joinS pe_str (pa_cons (pv 3) pa_nil)))) pa_nil))))))
theorem ok_Floor_m_moves {P : Program} {w : World} {K : PySem.W.Frag} {mg : Str → Option Value} {base : Heap} (T : Txt w K mg) (D_Floor_p_cells : O_Floor_p_cells P w K mg base) (D_Floor_p_is_free : O_Floor_p_is_free P w K mg base) (D_Floor_p_covered : O_Floor_p_covered P w K mg base) : O_Floor_m_moves P w K mg base := by
  obtain ⟨fd_Floor_p_cells, X_Floor_p_cells, G_Floor_p_cells⟩ := D_Floor_p_cells.ex
  have K_Floor_p_cells := X_Floor_p_cells.kp
  have B_Floor_p_cells := X_Floor_p_cells.bindsN (ps := ["self"]) fun _ _ _ _ _ _ us hl => match us, hl with | [_], _ => rfl
  have V_Floor_p_cells : Vals [] [] := .nil
  obtain ⟨fd_Floor_p_is_free, X_Floor_p_is_free, G_Floor_p_is_free⟩ := D_Floor_p_is_free.ex
  have K_Floor_p_is_free := X_Floor_p_is_free.kp
  have B_Floor_p_is_free := X_Floor_p_is_free.bindsN (ps := ["self", "row", "column"]) fun _ _ _ _ _ _ us hl => match us, hl with | [_, _, _], _ => rfl
  have V_Floor_p_is_free : Vals [] [] := .nil
  obtain ⟨fd_Floor_p_covered, X_Floor_p_covered, G_Floor_p_covered⟩ := D_Floor_p_covered.ex
  have K_Floor_p_covered := X_Floor_p_covered.kp
  have B_Floor_p_covered := X_Floor_p_covered.bindsN (ps := ["self", "cells"]) fun _ _ _ _ _ _ us hl => match us, hl with | [_, _], _ => rfl
  have V_Floor_p_covered : Vals [] [] := .nil
  obtain ⟨fd, X⟩ := T.d_Floor_m_moves
  refine ⟨fd, X, X.ok sc_Floor_m_moves (fun vs H Q E h => len_Floor_m_moves h) (fun cdv A outer s H vs Q E hr h => ⟨t_Floor_m_moves K E, PSs.nox ?_, pure_Floor_m_moves T.FFloor T.FSHAPES vs H Q E h⟩)⟩
  exact (pss_cons (ps_asg (pe_ix (ix_kd T.kd_SHAPES) (C8.pe_gc rfl ⟨_, T.g_SHAPES, rfl⟩) (pv 1) (fun _ _ => rfl)) (pg_tup rfl (pgs_cons (pg_name (i := 2) sc_Floor_m_moves.nd rfl (Or.inl rfl)) (pgs_cons (pg_name (i := 3) sc_Floor_m_moves.nd rfl (Or.inl rfl)) pgs_nil))))
      (pss_cons (ps_set (i := 4) sc_Floor_m_moves.nd rfl (Or.inl rfl) (pe_lst pa_nil))
      (pss_cons (ps_for PassesOwn.never rfl (pi_list (pe_meth0 (pv 0) T.cl_Floor T.mt_Floor__cells G_Floor_p_cells (hr.mono (by decide)) B_Floor_p_cells .nil pass0)) (pg_tup rfl (pgs_cons (pg_name (i := 5) sc_Floor_m_moves.nd rfl (Or.inl rfl)) (pgs_cons (pg_name (i := 6) sc_Floor_m_moves.nd rfl (Or.inl rfl)) pgs_nil)))
      (pss_cons (ps_set (i := 7) sc_Floor_m_moves.nd rfl (Or.inl rfl) (pe_tup (pa_cons (pe_op op_add (pv 5) (pv 2)) (pa_cons (pe_op op_add (pv 6) (pv 3)) pa_nil))))
      (pss_one (ps_if (PW.pt (pw_and (pt_val (pe_meth (pv 0) T.cl_Floor T.mt_Floor__is_free G_Floor_p_is_free (hr.mono (by decide)) B_Floor_p_is_free .nil pass0 (pa_cons (pv 5) (pa_cons (pv 6) pa_nil)))) (pw_and1 (pt_val (pe_meth (pv 0) T.cl_Floor T.mt_Floor__is_free G_Floor_p_is_free (hr.mono (by decide)) B_Floor_p_is_free .nil pass0 (pa_cons (pe_ix ix_tup (pv 7) pe_int (fun _ _ => rfl)) (pa_cons (pe_ix ix_tup (pv 7) pe_int (fun _ _ => rfl)) pa_nil))))))) (pss_one (ps_expr (pe_bm PySem.F.plainAttrs_list PySem.F.slot_list_append PySem.F.type_list_append mt_append (pv 4) (pa_cons (pe_meth (pv 0) T.cl_Floor T.mt_Floor__covered G_Floor_p_covered (hr.mono (by decide)) B_Floor_p_covered .nil pass0 (pa_cons (pe_lst (pa_cons (pe_tup (pa_cons (pv 5) (pa_cons (pv 6) pa_nil))) (pa_cons (pv 7) pa_nil))) pa_nil)) pa_nil)))) pss_nil))))
      (pss_one (ps_ret (pv 4))))))
theorem ok_Frogs_p_sign {P : Program} {w : World} {K : PySem.W.Frag} {mg : Str → Option Value} {base : Heap} (T : Txt w K mg)  : O_Frogs_p_sign P w K mg base := by
  obtain ⟨fd, X⟩ := T.d_Frogs_p_sign
  refine ⟨fd, X, X.ok sc_Frogs_p_sign (fun vs H Q E h => len_Frogs_p_sign h) (fun cdv A outer s H vs Q E hr h => ⟨t_Frogs_p_sign K E, PSs.nox ?_, pure_Frogs_p_sign T.FFrogs vs H Q E h⟩)⟩
  exact (pss_one (ps_ret (pe_ifExp (pt_chain op_le op_lt pe_int (pv 1) (pe_callB cr_lenS rfl T.z_len (by decide +kernel) (pa_cons (pe_fld (pv 0) rfl) pa_nil))) (pe_ix ix_str (pe_fld (pv 0) rfl) (pv 1) (fun _ _ => rfl)) pe_non)))
theorem ok_Frogs_p_target {P : Program} {w : World} {K : PySem.W.Frag} {mg : Str → Option Value} {base : Heap} (T : Txt w K mg) (D_Frogs_p_sign : O_Frogs_p_sign P w K mg base) : O_Frogs_p_target P w K mg base := by
  obtain ⟨fd_Frogs_p_sign, X_Frogs_p_sign, G_Frogs_p_sign⟩ := D_Frogs_p_sign.ex
  have K_Frogs_p_sign := X_Frogs_p_sign.kp
  have B_Frogs_p_sign := X_Frogs_p_sign.bindsN (ps := ["self", "place"]) fun _ _ _ _ _ _ us hl => match us, hl with | [_, _], _ => rfl
  have V_Frogs_p_sign : Vals [] [] := .nil
  obtain ⟨fd, X⟩ := T.d_Frogs_p_target
  refine ⟨fd, X, X.ok sc_Frogs_p_target (fun vs H Q E h => len_Frogs_p_target h) (fun cdv A outer s H vs Q E hr h => ⟨t_Frogs_p_target K E, PSs.nox ?_, pure_Frogs_p_target vs H Q E h⟩)⟩
  exact (pss_cons (ps_set (i := 4) sc_Frogs_p_target.nd rfl (Or.inl rfl) (pe_meth (pv 0) T.cl_Frogs T.mt_Frogs__sign G_Frogs_p_sign (hr.mono (by decide)) B_Frogs_p_sign .nil pass0 (pa_cons (pe_op op_add (pv 1) (pv 3)) pa_nil)))
      (pss_cons (ps_if (pt_cmpR op_eq (pv 4) (C8.pe_gc rfl (cst_okS T.c_FREE_frogs)) (nomark _)) (pss_one (ps_ret (pe_op op_add (pv 1) (pv 3)))) pss_nil)
      (pss_cons (ps_if (PW.pt (pw_and (pt_cmpR op_eq (pv 4) (pv 2) (nomark _)) (pw_and1 (pt_cmpR op_eq (pe_meth (pv 0) T.cl_Frogs T.mt_Frogs__sign G_Frogs_p_sign (hr.mono (by decide)) B_Frogs_p_sign .nil pass0 (pa_cons (pe_op op_add (pv 1) (pe_op op_mul pe_int (pv 3))) pa_nil)) (C8.pe_gc rfl (cst_okS T.c_FREE_frogs)) (nomark _))))) (pss_one (ps_ret (pe_op op_add (pv 1) (pe_op op_mul pe_int (pv 3))))) pss_nil)
      (pss_one (ps_ret pe_non)))))
theorem ok_Frogs_p_moved {P : Program} {w : World} {K : PySem.W.Frag} {mg : Str → Option Value} {base : Heap} (T : Txt w K mg) (D_Frogs_d_init : O_Frogs_d_init P w K mg base) : O_Frogs_p_moved P w K mg base := by
  obtain ⟨fd_Frogs_d_init, X_Frogs_d_init, G_Frogs_d_init⟩ := D_Frogs_d_init.ex
  have K_Frogs_d_init := X_Frogs_d_init.kp
  have B_Frogs_d_init := X_Frogs_d_init.bindsN (ps := ["self", "line"]) fun _ _ _ _ _ _ us hl => match us, hl with | [_, _], _ => rfl
  have V_Frogs_d_init : Vals [] [] := .nil
  obtain ⟨fd, X⟩ := T.d_Frogs_p_moved
  refine ⟨fd, X, X.ok sc_Frogs_p_moved (fun vs H Q E h => len_Frogs_p_moved h) (fun cdv A outer s H vs Q E hr h => ⟨t_Frogs_p_moved K E, PSs.nox ?_, pure_Frogs_p_moved T.FFrogs vs H Q E h⟩)⟩
  exact (pss_cons (ps_set (i := 3) sc_Frogs_p_moved.nd rfl (Or.inl rfl) (pe_callTy (cr_listS rfl) rfl T.z_list (by decide +kernel) (pa_cons (pe_fld (pv 0) rfl) pa_nil)))
      (pss_cons (ps_asg (pe_tup (pa_cons (C8.pe_gc rfl (cst_okS T.c_FREE_frogs)) (pa_cons (pe_ix ix_list (pv 3) (pv 1) (fun _ _ => rfl)) pa_nil))) (pg_tup rfl (pgs_cons (pg_sub (pv 3) (pv 1) set_list) (pgs_cons (pg_sub (pv 3) (pv 2) set_list) pgs_nil))))
      (pss_one (ps_ret (pe_make T.mk_Frogs G_Frogs_d_init (hr.mono (by decide)) rfl T.g_Frogs B_Frogs_d_init V_Frogs_d_init passL (pa_cons (pe_bm PySem.F.plainAttrs_str PySem.F.slot_str_join PySem.F.type_str_join mt_joinS pe_str (pa_cons (pv 3) pa_nil)) pa_nil))))))
theorem ok_Frogs_m_moves {P : Program} {w : World} {K : PySem.W.Frag} {mg : Str → Option Value} {base : Heap} (T : Txt w K mg) (D_Frogs_p_target : O_Frogs_p_target P w K mg base) (D_Frogs_p_moved : O_Frogs_p_moved P w K mg base) : O_Frogs_m_moves P w K mg base := by
  obtain ⟨fd_Frogs_p_target, X_Frogs_p_target, G_Frogs_p_target⟩ := D_Frogs_p_target.ex
  have K_Frogs_p_target := X_Frogs_p_target.kp
  have B_Frogs_p_target := X_Frogs_p_target.bindsN (ps := ["self", "place", "jumped", "step"]) fun _ _ _ _ _ _ us hl => match us, hl with | [_, _, _, _], _ => rfl
  have V_Frogs_p_target : Vals [] [] := .nil
  obtain ⟨fd_Frogs_p_moved, X_Frogs_p_moved, G_Frogs_p_moved⟩ := D_Frogs_p_moved.ex
  have K_Frogs_p_moved := X_Frogs_p_moved.kp
  have B_Frogs_p_moved := X_Frogs_p_moved.bindsN (ps := ["self", "place", "target"]) fun _ _ _ _ _ _ us hl => match us, hl with | [_, _, _], _ => rfl
  have V_Frogs_p_moved : Vals [] [] := .nil
  obtain ⟨fd, X⟩ := T.d_Frogs_m_moves
  refine ⟨fd, X, X.ok sc_Frogs_m_moves (fun vs H Q E h => len_Frogs_m_moves h) (fun cdv A outer s H vs Q E hr h => ⟨t_Frogs_m_moves K E, PSs.nox ?_, pure_Frogs_m_moves T.FFrogs T.FMOVERS vs H Q E h⟩)⟩
  exact (pss_cons (ps_asg (pe_ix (ix_kd T.kd_MOVERS) (C8.pe_gc rfl ⟨_, T.g_MOVERS, rfl⟩) (pv 1) (fun _ _ => rfl)) (pg_tup rfl (pgs_cons (pg_name (i := 2) sc_Frogs_m_moves.nd rfl (Or.inl rfl)) (pgs_cons (pg_name (i := 3) sc_Frogs_m_moves.nd rfl (Or.inl rfl)) (pgs_cons (pg_name (i := 4) sc_Frogs_m_moves.nd rfl (Or.inl rfl)) pgs_nil)))))
      (pss_cons (ps_set (i := 5) sc_Frogs_m_moves.nd rfl (Or.inl rfl) (pe_lst pa_nil))
      (pss_cons (ps_for PassesOwn.never rfl (pi_enumS rfl T.z_enumerate (pa_cons (pe_fld (pv 0) rfl) pa_nil)) (pg_tup rfl (pgs_cons (pg_name (i := 6) sc_Frogs_m_moves.nd rfl (Or.inl rfl)) (pgs_cons (pg_name (i := 7) sc_Frogs_m_moves.nd rfl (Or.inl rfl)) pgs_nil)))
      (pss_one (ps_if (pt_cmpR op_eq (pv 7) (pv 2) (nomark _)) (pss_cons (ps_set (i := 8) sc_Frogs_m_moves.nd rfl (Or.inl rfl) (pe_meth (pv 0) T.cl_Frogs T.mt_Frogs__target G_Frogs_p_target (hr.mono (by decide)) B_Frogs_p_target .nil pass0 (pa_cons (pv 6) (pa_cons (pv 3) (pa_cons (pv 4) pa_nil)))))
      (pss_one (ps_if (pt_cmpR op_notN1 (pv 8) pe_non (nomark _)) (pss_one (ps_expr (pe_bm PySem.F.plainAttrs_list PySem.F.slot_list_append PySem.F.type_list_append mt_append (pv 5) (pa_cons (pe_meth (pv 0) T.cl_Frogs T.mt_Frogs__moved G_Frogs_p_moved (hr.mono (by decide)) B_Frogs_p_moved .nil pass0 (pa_cons (pv 6) (pa_cons (pv 8) pa_nil))) pa_nil)))) pss_nil))) pss_nil)))
      (pss_one (ps_ret (pv 5))))))
theorem ok_cuts {P : Program} {w : World} {K : PySem.W.Frag} {mg : Str → Option Value} {base : Heap} (T : Txt w K mg)  : O_cuts P w K mg base := by
  obtain ⟨fd, X⟩ := T.d_cuts
  refine ⟨fd, X, X.ok sc_cuts (fun vs H Q E h => len_cuts h) (fun cdv A outer s H vs Q E hr h => ⟨t_cuts K E, PSs.nox ?_, pure_cuts vs H Q E h⟩)⟩
  exact (pss_cons (ps_asg (pv 0) (pg_tup rfl (pgs_cons (pg_name (i := 2) sc_cuts.nd rfl (Or.inr rfl)) (pgs_cons (pg_name (i := 3) sc_cuts.nd rfl (Or.inr rfl)) pgs_nil))))
      (pss_cons (ps_if (pt_cmpR op_eq (pv 1) pe_str (nomark _)) (pss_one (ps_ret (pe_lc (own := [("first", 4)]) (g := (gName 4)) (tt := tYes) rfl sc_cuts.nd (pi_range2 rfl T.z_range (pa_cons pe_int (pa_cons (pv 3) pa_nil))) (blkOk_by (N := R_cuts) (sc := defScope s_cuts) (by decide +kernel)) (fun _ _ _ _ _ => (pg_name (i := 4) sc_cuts.nd rfl (Or.inl rfl))) (fun _ _ _ _ _ => pts_nil) (fun _ _ _ _ _ => (pe_tup (pa_cons (pe_tup (pa_cons (pv 2) (pa_cons (pv 4) pa_nil))) (pa_cons (pe_tup (pa_cons (pv 2) (pa_cons (pe_op op_sub (pv 3) (pv 4)) pa_nil))) pa_nil))))))) pss_nil)
      (pss_one (ps_ret (pe_lc (own := [("first", 4)]) (g := (gName 4)) (tt := tYes) rfl sc_cuts.nd (pi_range2 rfl T.z_range (pa_cons pe_int (pa_cons (pv 2) pa_nil))) (blkOk_by (N := R_cuts) (sc := defScope s_cuts) (by decide +kernel)) (fun _ _ _ _ _ => (pg_name (i := 4) sc_cuts.nd rfl (Or.inl rfl))) (fun _ _ _ _ _ => pts_nil) (fun _ _ _ _ _ => (pe_tup (pa_cons (pe_tup (pa_cons (pv 4) (pa_cons (pv 3) pa_nil))) (pa_cons (pe_tup (pa_cons (pe_op op_sub (pv 2) (pv 4)) (pa_cons (pv 3) pa_nil))) pa_nil)))))))))
theorem ok_Cakes_m_moves {P : Program} {w : World} {K : PySem.W.Frag} {mg : Str → Option Value} {base : Heap} (T : Txt w K mg) (D_cuts : O_cuts P w K mg base) (D_Cakes_d_init : O_Cakes_d_init P w K mg base) : O_Cakes_m_moves P w K mg base := by
  obtain ⟨fd_cuts, X_cuts, G_cuts⟩ := D_cuts.ex
  have K_cuts := X_cuts.kp
  have B_cuts := X_cuts.bindsN (ps := ["cake", "side"]) fun _ _ _ _ _ _ us hl => match us, hl with | [_, _], _ => rfl
  have V_cuts : Vals [] [] := .nil
  obtain ⟨fd_Cakes_d_init, X_Cakes_d_init, G_Cakes_d_init⟩ := D_Cakes_d_init.ex
  have K_Cakes_d_init := X_Cakes_d_init.kp
  have B_Cakes_d_init := X_Cakes_d_init.bindsN (ps := ["self", "cakes"]) fun _ _ _ _ _ _ us hl => match us, hl with | [_, _], _ => rfl
  have V_Cakes_d_init : Vals [] [] := .nil
  obtain ⟨fd, X⟩ := T.d_Cakes_m_moves
  refine ⟨fd, X, X.ok sc_Cakes_m_moves (fun vs H Q E h => len_Cakes_m_moves h) (fun cdv A outer s H vs Q E hr h => ⟨t_Cakes_m_moves K E, PSs.nox ?_, pure_Cakes_m_moves T.FCakes vs H Q E h⟩)⟩
  exact (pss_cons (ps_set (i := 2) sc_Cakes_m_moves.nd rfl (Or.inl rfl) (pe_lst pa_nil))
      (pss_cons (ps_for PassesOwn.never rfl (pi_enumT rfl T.z_enumerate (pa_cons (pe_fld (pv 0) rfl) pa_nil)) (pg_tup rfl (pgs_cons (pg_name (i := 3) sc_Cakes_m_moves.nd rfl (Or.inl rfl)) (pgs_cons (pg_name (i := 4) sc_Cakes_m_moves.nd rfl (Or.inl rfl)) pgs_nil)))
      (pss_one (ps_for PassesOwn.never rfl (pi_list (pe_call G_cuts (hr.mono (by decide)) rfl T.g__cuts K_cuts B_cuts V_cuts pass0 (pa_cons (pv 4) (pa_cons (pv 1) pa_nil)))) (pg_tup rfl (pgs_cons (pg_name (i := 5) sc_Cakes_m_moves.nd rfl (Or.inl rfl)) (pgs_cons (pg_name (i := 6) sc_Cakes_m_moves.nd rfl (Or.inl rfl)) pgs_nil)))
      (pss_one (ps_expr (pe_bm PySem.F.plainAttrs_list PySem.F.slot_list_append PySem.F.type_list_append mt_append (pv 2) (pa_cons (pe_make T.mk_Cakes G_Cakes_d_init (hr.mono (by decide)) rfl T.g_Cakes B_Cakes_d_init V_Cakes_d_init passL (pa_cons (pe_lst (StX.pa_star (pe_slice sl_tupA (pe_fld (pv 0) rfl) po_none (po_some (pv 3))) (pa_cons (pv 5) (pa_cons (pv 6) (StX.pa_star (pe_slice sl_tupA (pe_fld (pv 0) rfl) (po_some (pe_op op_add (pv 3) pe_int)) po_none) pa_nil))))) pa_nil)) pa_nil)))))))
      (pss_one (ps_ret (pv 2)))))
theorem ok_Table_p_moved {P : Program} {w : World} {K : PySem.W.Frag} {mg : Str → Option Value} {base : Heap} (T : Txt w K mg) (D_Table_d_init : O_Table_d_init P w K mg base) : O_Table_p_moved P w K mg base := by
  obtain ⟨fd_Table_d_init, X_Table_d_init, G_Table_d_init⟩ := D_Table_d_init.ex
  have K_Table_d_init := X_Table_d_init.kp
  have B_Table_d_init := X_Table_d_init.bindsN (ps := ["self", "rows", "place"]) fun _ _ _ _ _ _ us hl => match us, hl with | [_, _, _], _ => rfl
  have V_Table_d_init : Vals [] [] := .nil
  obtain ⟨fd, X⟩ := T.d_Table_p_moved
  refine ⟨fd, X, X.ok sc_Table_p_moved (fun vs H Q E h => len_Table_p_moved h) (fun cdv A outer s H vs Q E hr h => ⟨t_Table_p_moved K E, PSs.nox ?_, pure_Table_p_moved T.FTable vs H Q E h⟩)⟩
  exact (pss_cons (ps_set (i := 2) sc_Table_p_moved.nd rfl (Or.inl rfl) (pe_make T.mk_Table G_Table_d_init (hr.mono (by decide)) rfl T.g_Table B_Table_d_init V_Table_d_init passL (pa_cons (pe_lst (pa_cons (pe_tup (pa_cons (pe_tup pa_nil) (pa_cons (pe_tup pa_nil) pa_nil))) pa_nil)) (pa_cons pe_int pa_nil))))
      (pss_cons (ps_fld (pv 2) (pe_fld (pv 0) rfl) rfl)
      (pss_cons (ps_fld (pv 2) (pv 1) rfl)
      (pss_one (ps_ret (pv 2))))))
theorem ok_Table_m_moves {P : Program} {w : World} {K : PySem.W.Frag} {mg : Str → Option Value} {base : Heap} (T : Txt w K mg) (D_Table_p_moved : O_Table_p_moved P w K mg base) : O_Table_m_moves P w K mg base := by
  obtain ⟨fd_Table_p_moved, X_Table_p_moved, G_Table_p_moved⟩ := D_Table_p_moved.ex
  have K_Table_p_moved := X_Table_p_moved.kp
  have B_Table_p_moved := X_Table_p_moved.bindsN (ps := ["self", "place"]) fun _ _ _ _ _ _ us hl => match us, hl with | [_, _], _ => rfl
  have V_Table_p_moved : Vals [] [] := .nil
  obtain ⟨fd, X⟩ := T.d_Table_m_moves
  refine ⟨fd, X, X.ok sc_Table_m_moves (fun vs H Q E h => len_Table_m_moves h) (fun cdv A outer s H vs Q E hr h => ⟨t_Table_m_moves K E, PSs.nox ?_, pure_Table_m_moves T.FTable vs H Q E h⟩)⟩
  exact (pss_cons (ps_asg (pe_ix ix_tup (pe_fld (pv 0) rfl) (pe_fld (pv 0) rfl) (fun _ _ => rfl)) (pg_tup rfl (pgs_cons (pg_name (i := 2) sc_Table_m_moves.nd rfl (Or.inl rfl)) (pgs_cons (pg_name (i := 3) sc_Table_m_moves.nd rfl (Or.inl rfl)) pgs_nil))))
      (pss_cons (ps_set (i := 4) sc_Table_m_moves.nd rfl (Or.inl rfl) (pe_ifExp (pt_cmpR op_eq (pv 1) pe_str (nomark _)) (pv 2) (pv 3)))
      (pss_one (ps_ret (pe_lc (own := [("place", 5)]) (g := (gName 5)) (tt := tYes) rfl sc_Table_m_moves.nd (pi_tup (pv 4)) (blkOk_by (N := R_Table_m_moves) (sc := defScope s_Table_m_moves) (by decide +kernel)) (fun _ _ _ _ _ => (pg_name (i := 5) sc_Table_m_moves.nd rfl (Or.inl rfl))) (fun _ _ _ _ _ => pts_nil) (fun _ _ _ _ _ => (pe_meth (pv 0) T.cl_Table T.mt_Table__moved G_Table_p_moved (hr.mono (by decide)) B_Table_p_moved .nil pass0 (pa_cons (pv 5) pa_nil))))))))
theorem ok_Meeting_m_moves {P : Program} {w : World} {K : PySem.W.Frag} {mg : Str → Option Value} {base : Heap} (T : Txt w K mg) (D_Heaps_m_moves : O_Heaps_m_moves P w K mg base) (D_Hedge_m_moves : O_Hedge_m_moves P w K mg base) (D_Floor_m_moves : O_Floor_m_moves P w K mg base) (D_Frogs_m_moves : O_Frogs_m_moves P w K mg base) (D_Cakes_m_moves : O_Cakes_m_moves P w K mg base) (D_Table_m_moves : O_Table_m_moves P w K mg base) : O_Meeting_m_moves P w K mg base := by
  obtain ⟨fd_Heaps_m_moves, X_Heaps_m_moves, G_Heaps_m_moves⟩ := D_Heaps_m_moves.ex
  have K_Heaps_m_moves := X_Heaps_m_moves.kp
  have B_Heaps_m_moves := X_Heaps_m_moves.bindsN (ps := ["self", "side"]) fun _ _ _ _ _ _ us hl => match us, hl with | [_, _], _ => rfl
  have V_Heaps_m_moves : Vals [] [] := .nil
  obtain ⟨fd_Hedge_m_moves, X_Hedge_m_moves, G_Hedge_m_moves⟩ := D_Hedge_m_moves.ex
  have K_Hedge_m_moves := X_Hedge_m_moves.kp
  have B_Hedge_m_moves := X_Hedge_m_moves.bindsN (ps := ["self", "side"]) fun _ _ _ _ _ _ us hl => match us, hl with | [_, _], _ => rfl
  have V_Hedge_m_moves : Vals [] [] := .nil
  obtain ⟨fd_Floor_m_moves, X_Floor_m_moves, G_Floor_m_moves⟩ := D_Floor_m_moves.ex
  have K_Floor_m_moves := X_Floor_m_moves.kp
  have B_Floor_m_moves := X_Floor_m_moves.bindsN (ps := ["self", "side"]) fun _ _ _ _ _ _ us hl => match us, hl with | [_, _], _ => rfl
  have V_Floor_m_moves : Vals [] [] := .nil
  obtain ⟨fd_Frogs_m_moves, X_Frogs_m_moves, G_Frogs_m_moves⟩ := D_Frogs_m_moves.ex
  have K_Frogs_m_moves := X_Frogs_m_moves.kp
  have B_Frogs_m_moves := X_Frogs_m_moves.bindsN (ps := ["self", "side"]) fun _ _ _ _ _ _ us hl => match us, hl with | [_, _], _ => rfl
  have V_Frogs_m_moves : Vals [] [] := .nil
  obtain ⟨fd_Cakes_m_moves, X_Cakes_m_moves, G_Cakes_m_moves⟩ := D_Cakes_m_moves.ex
  have K_Cakes_m_moves := X_Cakes_m_moves.kp
  have B_Cakes_m_moves := X_Cakes_m_moves.bindsN (ps := ["self", "side"]) fun _ _ _ _ _ _ us hl => match us, hl with | [_, _], _ => rfl
  have V_Cakes_m_moves : Vals [] [] := .nil
  obtain ⟨fd_Table_m_moves, X_Table_m_moves, G_Table_m_moves⟩ := D_Table_m_moves.ex
  have K_Table_m_moves := X_Table_m_moves.kp
  have B_Table_m_moves := X_Table_m_moves.bindsN (ps := ["self", "side"]) fun _ _ _ _ _ _ us hl => match us, hl with | [_, _], _ => rfl
  have V_Table_m_moves : Vals [] [] := .nil
  obtain ⟨fd, X⟩ := T.d_Meeting_m_moves
  refine ⟨fd, X, X.ok sc_Meeting_m_moves (fun vs H Q E h => len_Meeting_m_moves h) (fun cdv A outer s H vs Q E hr h => ⟨t_Meeting_m_moves K E, PSs.nox ?_, pure_Meeting_m_moves T.FMeeting vs H Q E h⟩)⟩
  exact (pss_cons (ps_set (i := 2) sc_Meeting_m_moves.nd rfl (Or.inl rfl) (pe_lst pa_nil))
      (pss_cons (ps_for PassesOwn.never rfl (pi_enumT rfl T.z_enumerate (pa_cons (pe_fld (pv 0) rfl) pa_nil)) (pg_tup rfl (pgs_cons (pg_name (i := 3) sc_Meeting_m_moves.nd rfl (Or.inr rfl)) (pgs_cons (pg_name (i := 4) sc_Meeting_m_moves.nd rfl (Or.inl rfl)) pgs_nil)))
      (pss_one (ps_expr (pe_bm PySem.F.plainAttrs_list PySem.F.slot_list_extend PySem.F.type_list_extend mt_extend (pv 2) (pa_cons (pe_lc (own := [("other", 5)]) (g := (gName 5)) (tt := tYes) rfl sc_Meeting_m_moves.nd (pi_list (pe_orE (pe_meth (pv 4) T.cl_Heaps T.mt_Heaps_moves G_Heaps_m_moves (hr.mono (by decide)) B_Heaps_m_moves .nil pass0 (pa_cons (pv 1) pa_nil)) (pe_orE (pe_meth (pv 4) T.cl_Hedge T.mt_Hedge_moves G_Hedge_m_moves (hr.mono (by decide)) B_Hedge_m_moves .nil pass0 (pa_cons (pv 1) pa_nil)) (pe_orE (pe_meth (pv 4) T.cl_Floor T.mt_Floor_moves G_Floor_m_moves (hr.mono (by decide)) B_Floor_m_moves .nil pass0 (pa_cons (pv 1) pa_nil)) (pe_orE (pe_meth (pv 4) T.cl_Frogs T.mt_Frogs_moves G_Frogs_m_moves (hr.mono (by decide)) B_Frogs_m_moves .nil pass0 (pa_cons (pv 1) pa_nil)) (pe_orE (pe_meth (pv 4) T.cl_Cakes T.mt_Cakes_moves G_Cakes_m_moves (hr.mono (by decide)) B_Cakes_m_moves .nil pass0 (pa_cons (pv 1) pa_nil)) (pe_meth (pv 4) T.cl_Table T.mt_Table_moves G_Table_m_moves (hr.mono (by decide)) B_Table_m_moves .nil pass0 (pa_cons (pv 1) pa_nil)))))))) (blkOk_by (N := R_Meeting_m_moves) (sc := defScope s_Meeting_m_moves) (by decide +kernel)) (fun _ _ _ _ _ => (pg_name (i := 5) sc_Meeting_m_moves.nd rfl (Or.inl rfl))) (fun _ _ _ _ _ => pts_nil) (fun _ _ _ _ _ => (pe_tup (pa_cons (pv 3) (pa_cons (pv 5) pa_nil))))) pa_nil)))))
      (pss_one (ps_ret (pv 2)))))
theorem ok_Match_m_back {P : Program} {w : World} {K : PySem.W.Frag} {mg : Str → Option Value} {base : Heap} (T : Txt w K mg)  : O_Match_m_back P w K mg base := by
  obtain ⟨fd, X⟩ := T.d_Match_m_back
  refine ⟨fd, X, X.ok sc_Match_m_back (fun vs H Q E h => len_Match_m_back h) (fun cdv A outer s H vs Q E hr h => ⟨t_Match_m_back K E, ?_, pure_Match_m_back T.FMatch vs H Q E h⟩)⟩
  exact (pss_cons (ps_if (pt_not (pt_truth (pe_fld (pv 0) rfl) (by intro _; rfl))) (pss_one (ps_raise rfl (takes_of rfl rfl rfl rfl) (pmk_own PySem.F.excBase_ValueError T.x_NoMove.1 T.g_NoMove T.x_NoMove.2.1 (raises_own T.x_NoMove.2.2.1 T.x_NoMove.2.2.2) (by exact rfl)))) pss_nil)
      (pss_cons (ps_expr (pe_bm0 PySem.F.plainAttrs_list PySem.F.slot_list_pop PySem.F.type_list_pop mt_pop (pe_fld (pv 0) rfl)))
      (pss_one (ps_expr (pe_bm0 PySem.F.plainAttrs_list PySem.F.slot_list_pop PySem.F.type_list_pop mt_pop (pe_fld (pv 0) rfl))))))
theorem ok_Match_m_meeting {P : Program} {w : World} {K : PySem.W.Frag} {mg : Str → Option Value} {base : Heap} (T : Txt w K mg)  : O_Match_m_meeting P w K mg base := by
  obtain ⟨fd, X⟩ := T.d_Match_m_meeting
  refine ⟨fd, X, X.ok sc_Match_m_meeting (fun vs H Q E h => len_Match_m_meeting h) (fun cdv A outer s H vs Q E hr h => ⟨t_Match_m_meeting K E, PSs.nox ?_, pure_Match_m_meeting T.FMatch vs H Q E h⟩)⟩
  exact (pss_one (ps_ret (pe_ix ix_list (pe_fld (pv 0) rfl) (pe_un un_neg pe_int) (fun _ _ => rfl))))
theorem ok_other_side {P : Program} {w : World} {K : PySem.W.Frag} {mg : Str → Option Value} {base : Heap} (T : Txt w K mg)  : O_other_side P w K mg base := by
  obtain ⟨fd, X⟩ := T.d_other_side
  refine ⟨fd, X, X.ok sc_other_side (fun vs H Q E h => len_other_side h) (fun cdv A outer s H vs Q E hr h => ⟨t_other_side K E, PSs.nox ?_, pure_other_side vs H Q E h⟩)⟩
  exact (pss_one (ps_ret (pe_ifExp (pt_cmpR op_eq (pv 0) pe_str (nomark _)) pe_str pe_str)))
theorem ok_Match_m_turn {P : Program} {w : World} {K : PySem.W.Frag} {mg : Str → Option Value} {base : Heap} (T : Txt w K mg) (D_other_side : O_other_side P w K mg base) : O_Match_m_turn P w K mg base := by
  obtain ⟨fd_other_side, X_other_side, G_other_side⟩ := D_other_side.ex
  have K_other_side := X_other_side.kp
  have B_other_side := X_other_side.bindsN (ps := ["side"]) fun _ _ _ _ _ _ us hl => match us, hl with | [_], _ => rfl
  have V_other_side : Vals [] [] := .nil
  obtain ⟨fd, X⟩ := T.d_Match_m_turn
  refine ⟨fd, X, X.ok sc_Match_m_turn (fun vs H Q E h => len_Match_m_turn h) (fun cdv A outer s H vs Q E hr h => ⟨t_Match_m_turn K E, PSs.nox ?_, pure_Match_m_turn T.FMatch vs H Q E h⟩)⟩
  exact (pss_one (ps_ret (pe_ifExp (pt_cmpR op_eq (pe_op op_and (pe_callB cr_lenQ rfl T.z_len (by decide +kernel) (pa_cons (pe_fld (pv 0) rfl) pa_nil)) pe_int) pe_int (nomark _)) (pe_fld (pv 0) rfl) (pe_call G_other_side (hr.mono (by decide)) rfl T.g_other_side K_other_side B_other_side V_other_side pass0 (pa_cons (pe_fld (pv 0) rfl) pa_nil)))))
theorem ok_Match_m_moves {P : Program} {w : World} {K : PySem.W.Frag} {mg : Str → Option Value} {base : Heap} (T : Txt w K mg) (D_Match_m_meeting : O_Match_m_meeting P w K mg base) (D_Meeting_m_moves : O_Meeting_m_moves P w K mg base) (D_Match_m_turn : O_Match_m_turn P w K mg base) : O_Match_m_moves P w K mg base := by
  obtain ⟨fd_Match_m_meeting, X_Match_m_meeting, G_Match_m_meeting⟩ := D_Match_m_meeting.ex
  have K_Match_m_meeting := X_Match_m_meeting.kp
  have B_Match_m_meeting := X_Match_m_meeting.bindsN (ps := ["self"]) fun _ _ _ _ _ _ us hl => match us, hl with | [_], _ => rfl
  have V_Match_m_meeting : Vals [] [] := .nil
  obtain ⟨fd_Meeting_m_moves, X_Meeting_m_moves, G_Meeting_m_moves⟩ := D_Meeting_m_moves.ex
  have K_Meeting_m_moves := X_Meeting_m_moves.kp
  have B_Meeting_m_moves := X_Meeting_m_moves.bindsN (ps := ["self", "side"]) fun _ _ _ _ _ _ us hl => match us, hl with | [_, _], _ => rfl
  have V_Meeting_m_moves : Vals [] [] := .nil
  obtain ⟨fd_Match_m_turn, X_Match_m_turn, G_Match_m_turn⟩ := D_Match_m_turn.ex
  have K_Match_m_turn := X_Match_m_turn.kp
  have B_Match_m_turn := X_Match_m_turn.bindsN (ps := ["self"]) fun _ _ _ _ _ _ us hl => match us, hl with | [_], _ => rfl
  have V_Match_m_turn : Vals [] [] := .nil
  obtain ⟨fd, X⟩ := T.d_Match_m_moves
  refine ⟨fd, X, X.ok sc_Match_m_moves (fun vs H Q E h => len_Match_m_moves h) (fun cdv A outer s H vs Q E hr h => ⟨t_Match_m_moves K E, PSs.nox ?_, pure_Match_m_moves vs H Q E h⟩)⟩
  exact (pss_one (ps_ret (pe_meth (pe_prop (pv 0) T.cl_Match T.pr_Match_meeting G_Match_m_meeting (hr.mono (by decide)) B_Match_m_meeting .nil pass0 (by rfl)) T.cl_Meeting T.mt_Meeting_moves G_Meeting_m_moves (hr.mono (by decide)) B_Meeting_m_moves .nil pass0 (pa_cons (pe_prop (pv 0) T.cl_Match T.pr_Match_turn G_Match_m_turn (hr.mono (by decide)) B_Match_m_turn .nil pass0 (by rfl)) pa_nil))))
theorem ok_Meeting_m_moved {P : Program} {w : World} {K : PySem.W.Frag} {mg : Str → Option Value} {base : Heap} (T : Txt w K mg) (D_Meeting_d_init : O_Meeting_d_init P w K mg base) : O_Meeting_m_moved P w K mg base := by
  obtain ⟨fd_Meeting_d_init, X_Meeting_d_init, G_Meeting_d_init⟩ := D_Meeting_d_init.ex
  have K_Meeting_d_init := X_Meeting_d_init.kp
  have B_Meeting_d_init := X_Meeting_d_init.bindsN (ps := ["self", "boards"]) fun _ _ _ _ _ _ us hl => match us, hl with | [_, _], _ => rfl
  have V_Meeting_d_init : Vals [] [] := .nil
  obtain ⟨fd, X⟩ := T.d_Meeting_m_moved
  refine ⟨fd, X, X.ok sc_Meeting_m_moved (fun vs H Q E h => len_Meeting_m_moved h) (fun cdv A outer s H vs Q E hr h => ⟨t_Meeting_m_moved K E, PSs.nox ?_, pure_Meeting_m_moved T.FMeeting vs H Q E h⟩)⟩
  exact (pss_cons (ps_set (i := 3) sc_Meeting_m_moved.nd rfl (Or.inl rfl) (pe_callTy cr_listQ rfl T.z_list (by decide +kernel) (pa_cons (pe_fld (pv 0) rfl) pa_nil)))
      (pss_cons (ps_asg (pv 2) (pg_sub (pv 3) (pv 1) set_list))
      (pss_one (ps_ret (pe_make T.mk_Meeting G_Meeting_d_init (hr.mono (by decide)) rfl T.g_Meeting B_Meeting_d_init V_Meeting_d_init passL (pa_cons (pv 3) pa_nil))))))
theorem ok_Match_m_play {P : Program} {w : World} {K : PySem.W.Frag} {mg : Str → Option Value} {base : Heap} (T : Txt w K mg) (D_Match_m_moves : O_Match_m_moves P w K mg base) (D_is_whole : O_is_whole P w K mg base) (D_Match_m_meeting : O_Match_m_meeting P w K mg base) (D_Meeting_m_moved : O_Meeting_m_moved P w K mg base) : O_Match_m_play P w K mg base := by
  obtain ⟨fd_Match_m_moves, X_Match_m_moves, G_Match_m_moves⟩ := D_Match_m_moves.ex
  have K_Match_m_moves := X_Match_m_moves.kp
  have B_Match_m_moves := X_Match_m_moves.bindsN (ps := ["self"]) fun _ _ _ _ _ _ us hl => match us, hl with | [_], _ => rfl
  have V_Match_m_moves : Vals [] [] := .nil
  obtain ⟨fd_is_whole, X_is_whole, G_is_whole⟩ := D_is_whole.ex
  have K_is_whole := X_is_whole.kp
  have B_is_whole := X_is_whole.bindsN (ps := ["thing", "least", "most"]) fun _ _ _ _ _ _ us hl => match us, hl with | [_, _, _], _ => rfl
  have V_is_whole : Vals [] [] := .nil
  obtain ⟨fd_Match_m_meeting, X_Match_m_meeting, G_Match_m_meeting⟩ := D_Match_m_meeting.ex
  have K_Match_m_meeting := X_Match_m_meeting.kp
  have B_Match_m_meeting := X_Match_m_meeting.bindsN (ps := ["self"]) fun _ _ _ _ _ _ us hl => match us, hl with | [_], _ => rfl
  have V_Match_m_meeting : Vals [] [] := .nil
  obtain ⟨fd_Meeting_m_moved, X_Meeting_m_moved, G_Meeting_m_moved⟩ := D_Meeting_m_moved.ex
  have K_Meeting_m_moved := X_Meeting_m_moved.kp
  have B_Meeting_m_moved := X_Meeting_m_moved.bindsN (ps := ["self", "place", "board"]) fun _ _ _ _ _ _ us hl => match us, hl with | [_, _, _], _ => rfl
  have V_Meeting_m_moved : Vals [] [] := .nil
  obtain ⟨fd, X⟩ := T.d_Match_m_play
  refine ⟨fd, X, X.ok sc_Match_m_play (fun vs H Q E h => len_Match_m_play h) (fun cdv A outer s H vs Q E hr h => ⟨t_Match_m_play K E, ?_, pure_Match_m_play T.FMatch vs H Q E h⟩)⟩
  exact (pss_cons (ps_set (i := 2) sc_Match_m_play.nd rfl (Or.inl rfl) (pe_meth0 (pv 0) T.cl_Match T.mt_Match_moves G_Match_m_moves (hr.mono (by decide)) B_Match_m_moves .nil pass0))
      (pss_cons (ps_if (pt_not (pt_val (pe_call G_is_whole (hr.mono (by decide)) rfl T.g_is_whole K_is_whole B_is_whole V_is_whole pass0 (pa_cons (pv 1) (pa_cons pe_int (pa_cons (pe_op op_sub (pe_callB cr_lenQ rfl T.z_len (by decide +kernel) (pa_cons (pv 2) pa_nil)) pe_int) pa_nil)))))) (pss_one (ps_raise rfl (takes_of rfl rfl rfl rfl) (pmk_own PySem.F.excBase_ValueError T.x_NoMove.1 T.g_NoMove T.x_NoMove.2.1 (raises_own T.x_NoMove.2.2.1 T.x_NoMove.2.2.2) (by exact rfl)))) pss_nil)
      (pss_cons (ps_asg (pe_ix ix_list (pv 2) (pv 1) (fun _ _ => rfl)) (pg_tup rfl (pgs_cons (pg_name (i := 3) sc_Match_m_play.nd rfl (Or.inl rfl)) (pgs_cons (pg_name (i := 4) sc_Match_m_play.nd rfl (Or.inl rfl)) pgs_nil))))
      (pss_cons (ps_expr (pe_bm PySem.F.plainAttrs_list PySem.F.slot_list_append PySem.F.type_list_append mt_append (pe_fld (pv 0) rfl) (pa_cons (pe_meth (pe_prop (pv 0) T.cl_Match T.pr_Match_meeting G_Match_m_meeting (hr.mono (by decide)) B_Match_m_meeting .nil pass0 (by rfl)) T.cl_Meeting T.mt_Meeting_moved G_Meeting_m_moved (hr.mono (by decide)) B_Meeting_m_moved .nil pass0 (pa_cons (pv 3) (pa_cons (pv 4) pa_nil))) pa_nil)))
      (pss_one (ps_expr (pe_bm PySem.F.plainAttrs_list PySem.F.slot_list_append PySem.F.type_list_append mt_append (pe_fld (pv 0) rfl) (pa_cons (pv 1) pa_nil))))))))
theorem ok_law_no_move {P : Program} {w : World} {K : PySem.W.Frag} {mg : Str → Option Value} {base : Heap} (T : Txt w K mg) (D_Match_m_back : O_Match_m_back P w K mg base) (D_Match_m_play : O_Match_m_play P w K mg base) : O_law_no_move P w K mg base := by
  obtain ⟨fd_Match_m_back, X_Match_m_back, G_Match_m_back⟩ := D_Match_m_back.ex
  have K_Match_m_back := X_Match_m_back.kp
  have B_Match_m_back := X_Match_m_back.bindsN (ps := ["self"]) fun _ _ _ _ _ _ us hl => match us, hl with | [_], _ => rfl
  have V_Match_m_back : Vals [] [] := .nil
  obtain ⟨fd_Match_m_play, X_Match_m_play, G_Match_m_play⟩ := D_Match_m_play.ex
  have K_Match_m_play := X_Match_m_play.kp
  have B_Match_m_play := X_Match_m_play.bindsN (ps := ["self", "index"]) fun _ _ _ _ _ _ us hl => match us, hl with | [_, _], _ => rfl
  have V_Match_m_play : Vals [] [] := .nil
  obtain ⟨fd, X⟩ := T.d_law_no_move
  refine ⟨fd, X, X.ok sc_law_no_move (fun vs H Q E h => len_law_no_move h) (fun cdv A outer s H vs Q E hr h => ⟨t_law_no_move K E, PSs.nox ?_, pure_law_no_move T.FNoMoveM vs H Q E h⟩)⟩
  exact (pss_cons (ps_try_as (i := 2) (c := (.ref (He.ga K "NoMove"))) (tb := fun W => (tIfS (tTest (tOp rIsN (tVar 1) (tC .non))) (tDrop (tMethE (He.ga K "Match") "back" (sp_Match_m_back K) (WE W) (tVar 0) tNil)) (tDrop (tMethE (He.ga K "Match") "play" (sp_Match_m_play K) (WE W) (tVar 0) (tCons (tVar 1) tNil))))) (ts := (fun a cls d => tWhen (cls = .ref (He.ga K "NoMove") ∧ d = none) (tSeq (tIfS (tOr (tB (tCB (rIsE K (He.ga K "NoMove") a) (tCons (tVar 2) (tCons (tC (.ref (He.ga K "BadValue"))) tNil)))) (tOr (tB (tCB (rIsE K (He.ga K "NoMove") a) (tCons (tVar 2) (tCons (tC (.ref (He.ga K "BadText"))) tNil)))) (tB (tCB (rIsE K (He.ga K "NoMove") a) (tCons (tVar 2) (tCons (tC (.ref (He.ga K "Unknown"))) tNil)))))) (tRet (tC (.bl false))) tNext) (tRet (tAndV (tCB (rIsE K (He.ga K "NoMove") a) (tCons (tVar 2) (tCons (tC (.ref (He.ga K "PlayError"))) tNil))) (tCB (rIsE K (He.ga K "NoMove") a) (tCons (tVar 2) (tCons (tC (.ty "ValueError")) tNil)))))))) (Wout := fun _ _ _ _ => False) rfl rfl sc_law_no_move.nd rfl rfl ⟨rfl, by decide, Or.inl T.g_NoMove⟩ takes0 (fun W pn xe tk _ => (pss_one (ps_if (pt_cmpR op_isN1 (pv 1) pe_non (nomark _)) (pss_one (ps_expr (pe_methE0 (pv 0) T.cl_Match T.mt_Match_back G_Match_m_back (hr.mono (by decide)) B_Match_m_back (fun σ => passAt tk σ)))) (pss_one (ps_expr (pe_methE (pv 0) T.cl_Match T.mt_Match_play G_Match_m_play (hr.mono (by decide)) B_Match_m_play (fun σ => passAt tk σ) (pa_cons (pv 1) pa_nil))))))) (fun a oe cls d pn hz hf => pss_when fun hh => (pss_cons (ps_if (PW.pt (pw_or (pt_val (pe_callB (call_isE T.xc_NoMove (zc_at hh hz) hf) rfl T.z_isinstance (by decide +kernel) (pa_cons (pv 2) (pa_cons (C8.pe_gc rfl ⟨_, T.g_BadValue, rfl⟩) pa_nil)))) (pw_or (pt_val (pe_callB (call_isE T.xc_NoMove (zc_at hh hz) hf) rfl T.z_isinstance (by decide +kernel) (pa_cons (pv 2) (pa_cons (C8.pe_gc rfl ⟨_, T.g_BadText, rfl⟩) pa_nil)))) (pw_or1 (pt_val (pe_callB (call_isE T.xc_NoMove (zc_at hh hz) hf) rfl T.z_isinstance (by decide +kernel) (pa_cons (pv 2) (pa_cons (C8.pe_gc rfl ⟨_, T.g_Unknown, rfl⟩) pa_nil)))))))) (pss_one (ps_ret pe_bl)) pss_nil)
      (pss_one (ps_ret (pe_and (pe_callB (call_isE T.xc_NoMove (zc_at hh hz) hf) rfl T.z_isinstance (by decide +kernel) (pa_cons (pv 2) (pa_cons (C8.pe_gc rfl ⟨_, T.g_PlayError, rfl⟩) pa_nil))) (pe_one (pe_callB (call_isE T.xc_NoMove (zc_at hh hz) hf) rfl T.z_isinstance (by decide +kernel) (pa_cons (pv 2) (pa_cons (pe_bltn rfl T.z_ValueError (by decide +kernel) rfl) pa_nil))))))))))
      (pss_one (ps_ret pe_bl)))
theorem ok_Meeting_m_boards {P : Program} {w : World} {K : PySem.W.Frag} {mg : Str → Option Value} {base : Heap} (T : Txt w K mg)  : O_Meeting_m_boards P w K mg base := by
  obtain ⟨fd, X⟩ := T.d_Meeting_m_boards
  refine ⟨fd, X, X.ok sc_Meeting_m_boards (fun vs H Q E h => len_Meeting_m_boards h) (fun cdv A outer s H vs Q E hr h => ⟨t_Meeting_m_boards K E, PSs.nox ?_, pure_Meeting_m_boards T.FMeeting vs H Q E h⟩)⟩
  exact (pss_one (ps_ret (pe_callTy cr_listQ rfl T.z_list (by decide +kernel) (pa_cons (pe_fld (pv 0) rfl) pa_nil))))
theorem ok_law_deed {P : Program} {w : World} {K : PySem.W.Frag} {mg : Str → Option Value} {base : Heap} (T : Txt w K mg) (D_Meeting_m_moves : O_Meeting_m_moves P w K mg base) (D_law_draw : O_law_draw P w K mg base) (D_law_no_move : O_law_no_move P w K mg base) (D_Match_m_back : O_Match_m_back P w K mg base) (D_Meeting_m_boards : O_Meeting_m_boards P w K mg base) (D_Meeting_d_init : O_Meeting_d_init P w K mg base) (D_Match_m_play : O_Match_m_play P w K mg base) : O_law_deed P w K mg base := by
  obtain ⟨fd_Meeting_m_moves, X_Meeting_m_moves, G_Meeting_m_moves⟩ := D_Meeting_m_moves.ex
  have K_Meeting_m_moves := X_Meeting_m_moves.kp
  have B_Meeting_m_moves := X_Meeting_m_moves.bindsN (ps := ["self", "side"]) fun _ _ _ _ _ _ us hl => match us, hl with | [_, _], _ => rfl
  have V_Meeting_m_moves : Vals [] [] := .nil
  obtain ⟨fd_law_draw, X_law_draw, G_law_draw⟩ := D_law_draw.ex
  have K_law_draw := X_law_draw.kp
  have B_law_draw := X_law_draw.bindsN (ps := ["tape", "size"]) fun _ _ _ _ _ _ us hl => match us, hl with | [_, _], _ => rfl
  have V_law_draw : Vals [] [] := .nil
  obtain ⟨fd_law_no_move, X_law_no_move, G_law_no_move⟩ := D_law_no_move.ex
  have K_law_no_move := X_law_no_move.kp
  have B_law_no_move := X_law_no_move.bindsN (ps := ["match", "index"]) fun _ _ _ _ _ _ us hl => match us, hl with | [_, _], _ => rfl
  have V_law_no_move : Vals [] [] := .nil
  obtain ⟨fd_Match_m_back, X_Match_m_back, G_Match_m_back⟩ := D_Match_m_back.ex
  have K_Match_m_back := X_Match_m_back.kp
  have B_Match_m_back := X_Match_m_back.bindsN (ps := ["self"]) fun _ _ _ _ _ _ us hl => match us, hl with | [_], _ => rfl
  have V_Match_m_back : Vals [] [] := .nil
  obtain ⟨fd_Meeting_m_boards, X_Meeting_m_boards, G_Meeting_m_boards⟩ := D_Meeting_m_boards.ex
  have K_Meeting_m_boards := X_Meeting_m_boards.kp
  have B_Meeting_m_boards := X_Meeting_m_boards.bindsN (ps := ["self"]) fun _ _ _ _ _ _ us hl => match us, hl with | [_], _ => rfl
  have V_Meeting_m_boards : Vals [] [] := .nil
  obtain ⟨fd_Meeting_d_init, X_Meeting_d_init, G_Meeting_d_init⟩ := D_Meeting_d_init.ex
  have K_Meeting_d_init := X_Meeting_d_init.kp
  have B_Meeting_d_init := X_Meeting_d_init.bindsN (ps := ["self", "boards"]) fun _ _ _ _ _ _ us hl => match us, hl with | [_, _], _ => rfl
  have V_Meeting_d_init : Vals [] [] := .nil
  obtain ⟨fd_Match_m_play, X_Match_m_play, G_Match_m_play⟩ := D_Match_m_play.ex
  have K_Match_m_play := X_Match_m_play.kp
  have B_Match_m_play := X_Match_m_play.bindsN (ps := ["self", "index"]) fun _ _ _ _ _ _ us hl => match us, hl with | [_, _], _ => rfl
  have V_Match_m_play : Vals [] [] := .nil
  obtain ⟨fd, X⟩ := T.d_law_deed
  refine ⟨fd, X, X.ok sc_law_deed (fun vs H Q E h => len_law_deed h) (fun cdv A outer s H vs Q E hr h => ⟨t_law_deed K E, PSs.nox ?_, pure_law_deed vs H Q E h⟩)⟩
  exact (pss_cons (ps_set (i := 3) sc_law_deed.nd rfl (Or.inl rfl) (pe_ix ix_list (pe_lst (pa_cons pe_str (pa_cons pe_str pa_nil))) (pe_op op_mod (pe_op op_add (pe_dget (hu_of hr) (pv 1) pe_str (fun _ _ => rfl)) (pe_callB cr_lenQ rfl T.z_len (by decide +kernel) (pa_cons (pe_dget (hu_of hr) (pv 1) pe_str (fun _ _ => rfl)) pa_nil))) pe_int) (fun _ _ => rfl)))
      (pss_cons (ps_set (i := 4) sc_law_deed.nd rfl (Or.inl rfl) (pe_ix ix_list (pe_dget (hu_of hr) (pv 1) pe_str (fun _ _ => rfl)) (pe_un un_neg pe_int) (fun _ _ => rfl)))
      (pss_cons (ps_set (i := 5) sc_law_deed.nd rfl (Or.inl rfl) (pe_meth (pv 4) T.cl_Meeting T.mt_Meeting_moves G_Meeting_m_moves (hr.mono (by decide)) B_Meeting_m_moves .nil pass0 (pa_cons (pv 3) pa_nil)))
      (pss_cons (ps_set (i := 6) sc_law_deed.nd rfl (Or.inl rfl) (pe_call G_law_draw (hr.mono (by decide)) rfl T.g__law_draw K_law_draw B_law_draw V_law_draw pass0 (pa_cons (pv 2) (pa_cons pe_int pa_nil))))
      (pss_cons (ps_if (pt_cmpR op_eq (pv 6) pe_int (nomark _)) (pss_one (ps_ret (pe_call G_law_no_move (hr.mono (by decide)) rfl T.g__law_no_move K_law_no_move B_law_no_move V_law_no_move pass0 (pa_cons (pv 0) (pa_cons (pe_ix ix_list (pe_lst (pa_cons (pe_op op_add (pe_callB cr_lenQ rfl T.z_len (by decide +kernel) (pa_cons (pv 5) pa_nil)) (pe_call G_law_draw (hr.mono (by decide)) rfl T.g__law_draw K_law_draw B_law_draw V_law_draw pass0 (pa_cons (pv 2) (pa_cons pe_int pa_nil)))) (pa_cons (pe_op op_sub (pe_un un_neg pe_int) (pe_call G_law_draw (hr.mono (by decide)) rfl T.g__law_draw K_law_draw B_law_draw V_law_draw pass0 (pa_cons (pv 2) (pa_cons (pe_op op_pow pe_int pe_int) pa_nil)))) pa_nil))) (pe_call G_law_draw (hr.mono (by decide)) rfl T.g__law_draw K_law_draw B_law_draw V_law_draw pass0 (pa_cons (pv 2) (pa_cons pe_int pa_nil))) (fun _ _ => rfl)) pa_nil))))) pss_nil)
      (pss_cons (ps_if (PW.pt (pw_and (pt_cmpR op_lt (pv 6) pe_int (nomark _)) (pw_and1 (pt_cmpR (op_eqN hr.units) (pe_dget (hu_of hr) (pv 1) pe_str (fun _ _ => rfl)) (pe_lst pa_nil) (nomark _))))) (pss_one (ps_ret (pe_call G_law_no_move (hr.mono (by decide)) rfl T.g__law_no_move K_law_no_move B_law_no_move V_law_no_move pass0 (pa_cons (pv 0) (pa_cons pe_non pa_nil))))) pss_nil)
      (pss_cons (ps_if (pt_cmpR op_lt (pv 6) pe_int (nomark _)) (pss_cons (ps_expr (pe_bm0 PySem.F.plainAttrs_list PySem.F.slot_list_pop PySem.F.type_list_pop mt_pop (pe_dget (hu_of hr) (pv 1) pe_str (fun _ _ => rfl))))
      (pss_cons (ps_expr (pe_bm0 PySem.F.plainAttrs_list PySem.F.slot_list_pop PySem.F.type_list_pop mt_pop (pe_dget (hu_of hr) (pv 1) pe_str (fun _ _ => rfl))))
      (pss_one (ps_ret (pe_cmpR op_isN1 (pe_meth0 (pv 0) T.cl_Match T.mt_Match_back G_Match_m_back (hr.mono (by decide)) B_Match_m_back .nil passL) pe_non (nomark _)))))) pss_nil)
      (pss_cons (ps_if (pt_cmpR (op_eqN hr.units) (pv 5) (pe_lst pa_nil) (nomark _)) (pss_one (ps_ret (pe_call G_law_no_move (hr.mono (by decide)) rfl T.g__law_no_move K_law_no_move B_law_no_move V_law_no_move pass0 (pa_cons (pv 0) (pa_cons pe_int pa_nil))))) pss_nil)
      (pss_cons (ps_set (i := 7) sc_law_deed.nd rfl (Or.inl rfl) (pe_call G_law_draw (hr.mono (by decide)) rfl T.g__law_draw K_law_draw B_law_draw V_law_draw pass0 (pa_cons (pv 2) (pa_cons (pe_callB cr_lenQ rfl T.z_len (by decide +kernel) (pa_cons (pv 5) pa_nil)) pa_nil))))
      (pss_cons (ps_set (i := 8) sc_law_deed.nd rfl (Or.inl rfl) (pe_meth0 (pv 4) T.cl_Meeting T.mt_Meeting_boards G_Meeting_m_boards (hr.mono (by decide)) B_Meeting_m_boards .nil pass0))
      (pss_cons (ps_asg (pe_ix ix_tup (pe_ix ix_list (pv 5) (pv 7) (fun _ _ => rfl)) pe_int (fun _ _ => rfl)) (pg_sub (pv 8) (pe_ix ix_tup (pe_ix ix_list (pv 5) (pv 7) (fun _ _ => rfl)) pe_int (fun _ _ => rfl)) set_list))
      (pss_cons (ps_expr (pe_bm PySem.F.plainAttrs_list PySem.F.slot_list_append PySem.F.type_list_append mt_append (pe_dget (hu_of hr) (pv 1) pe_str (fun _ _ => rfl)) (pa_cons (pe_make T.mk_Meeting G_Meeting_d_init (hr.mono (by decide)) rfl T.g_Meeting B_Meeting_d_init V_Meeting_d_init passL (pa_cons (pv 8) pa_nil)) pa_nil)))
      (pss_cons (ps_expr (pe_bm PySem.F.plainAttrs_list PySem.F.slot_list_append PySem.F.type_list_append mt_append (pe_dget (hu_of hr) (pv 1) pe_str (fun _ _ => rfl)) (pa_cons (pv 7) pa_nil)))
      (pss_one (ps_ret (pe_cmpR op_isN1 (pe_meth (pv 0) T.cl_Match T.mt_Match_play G_Match_m_play (hr.mono (by decide)) B_Match_m_play .nil passL (pa_cons (pv 7) pa_nil)) pe_non (nomark _)))))))))))))))))
theorem ok_Heaps_m_value {P : Program} {w : World} {K : PySem.W.Frag} {mg : Str → Option Value} {base : Heap} (T : Txt w K mg)  : O_Heaps_m_value P w K mg base := by
  obtain ⟨fd, X⟩ := T.d_Heaps_m_value
  refine ⟨fd, X, X.ok sc_Heaps_m_value (fun vs H Q E h => len_Heaps_m_value h) (fun cdv A outer s H vs Q E hr h => ⟨t_Heaps_m_value K E, PSs.nox ?_, pure_Heaps_m_value T.FHeaps vs H Q E h⟩)⟩
  exact (pss_one (ps_ret (pe_tup (pa_cons pe_str (pa_cons (pe_fld (pv 0) rfl) pa_nil)))))
theorem ok_Floor_m_value {P : Program} {w : World} {K : PySem.W.Frag} {mg : Str → Option Value} {base : Heap} (T : Txt w K mg)  : O_Floor_m_value P w K mg base := by
  obtain ⟨fd, X⟩ := T.d_Floor_m_value
  refine ⟨fd, X, X.ok sc_Floor_m_value (fun vs H Q E h => len_Floor_m_value h) (fun cdv A outer s H vs Q E hr h => ⟨t_Floor_m_value K E, PSs.nox ?_, pure_Floor_m_value T.FFloor vs H Q E h⟩)⟩
  exact (pss_one (ps_ret (pe_tup (pa_cons pe_str (pa_cons (pe_fld (pv 0) rfl) pa_nil)))))
theorem ok_Frogs_m_value {P : Program} {w : World} {K : PySem.W.Frag} {mg : Str → Option Value} {base : Heap} (T : Txt w K mg)  : O_Frogs_m_value P w K mg base := by
  obtain ⟨fd, X⟩ := T.d_Frogs_m_value
  refine ⟨fd, X, X.ok sc_Frogs_m_value (fun vs H Q E h => len_Frogs_m_value h) (fun cdv A outer s H vs Q E hr h => ⟨t_Frogs_m_value K E, PSs.nox ?_, pure_Frogs_m_value T.FFrogs vs H Q E h⟩)⟩
  exact (pss_one (ps_ret (pe_tup (pa_cons pe_str (pa_cons (pe_fld (pv 0) rfl) pa_nil)))))
theorem ok_Cakes_m_value {P : Program} {w : World} {K : PySem.W.Frag} {mg : Str → Option Value} {base : Heap} (T : Txt w K mg)  : O_Cakes_m_value P w K mg base := by
  obtain ⟨fd, X⟩ := T.d_Cakes_m_value
  refine ⟨fd, X, X.ok sc_Cakes_m_value (fun vs H Q E h => len_Cakes_m_value h) (fun cdv A outer s H vs Q E hr h => ⟨t_Cakes_m_value K E, PSs.nox ?_, pure_Cakes_m_value T.FCakes vs H Q E h⟩)⟩
  exact (pss_one (ps_ret (pe_tup (pa_cons pe_str (pa_cons (pe_fld (pv 0) rfl) pa_nil)))))
theorem ok_Table_m_value {P : Program} {w : World} {K : PySem.W.Frag} {mg : Str → Option Value} {base : Heap} (T : Txt w K mg)  : O_Table_m_value P w K mg base := by
  obtain ⟨fd, X⟩ := T.d_Table_m_value
  refine ⟨fd, X, X.ok sc_Table_m_value (fun vs H Q E h => len_Table_m_value h) (fun cdv A outer s H vs Q E hr h => ⟨t_Table_m_value K E, PSs.nox ?_, pure_Table_m_value T.FTable vs H Q E h⟩)⟩
  exact (pss_one (ps_ret (pe_tup (pa_cons pe_str (pa_cons (pe_fld (pv 0) rfl) (pa_cons (pe_fld (pv 0) rfl) pa_nil))))))
theorem ok_Meeting_m_value {P : Program} {w : World} {K : PySem.W.Frag} {mg : Str → Option Value} {base : Heap} (T : Txt w K mg) (D_Heaps_m_value : O_Heaps_m_value P w K mg base) (D_Hedge_m_value : O_Hedge_m_value P w K mg base) (D_Floor_m_value : O_Floor_m_value P w K mg base) (D_Frogs_m_value : O_Frogs_m_value P w K mg base) (D_Cakes_m_value : O_Cakes_m_value P w K mg base) (D_Table_m_value : O_Table_m_value P w K mg base) : O_Meeting_m_value P w K mg base := by
  obtain ⟨fd_Heaps_m_value, X_Heaps_m_value, G_Heaps_m_value⟩ := D_Heaps_m_value.ex
  have K_Heaps_m_value := X_Heaps_m_value.kp
  have B_Heaps_m_value := X_Heaps_m_value.bindsN (ps := ["self"]) fun _ _ _ _ _ _ us hl => match us, hl with | [_], _ => rfl
  have V_Heaps_m_value : Vals [] [] := .nil
  obtain ⟨fd_Hedge_m_value, X_Hedge_m_value, G_Hedge_m_value⟩ := D_Hedge_m_value.ex
  have K_Hedge_m_value := X_Hedge_m_value.kp
  have B_Hedge_m_value := X_Hedge_m_value.bindsN (ps := ["self"]) fun _ _ _ _ _ _ us hl => match us, hl with | [_], _ => rfl
  have V_Hedge_m_value : Vals [] [] := .nil
  obtain ⟨fd_Floor_m_value, X_Floor_m_value, G_Floor_m_value⟩ := D_Floor_m_value.ex
  have K_Floor_m_value := X_Floor_m_value.kp
  have B_Floor_m_value := X_Floor_m_value.bindsN (ps := ["self"]) fun _ _ _ _ _ _ us hl => match us, hl with | [_], _ => rfl
  have V_Floor_m_value : Vals [] [] := .nil
  obtain ⟨fd_Frogs_m_value, X_Frogs_m_value, G_Frogs_m_value⟩ := D_Frogs_m_value.ex
  have K_Frogs_m_value := X_Frogs_m_value.kp
  have B_Frogs_m_value := X_Frogs_m_value.bindsN (ps := ["self"]) fun _ _ _ _ _ _ us hl => match us, hl with | [_], _ => rfl
  have V_Frogs_m_value : Vals [] [] := .nil
  obtain ⟨fd_Cakes_m_value, X_Cakes_m_value, G_Cakes_m_value⟩ := D_Cakes_m_value.ex
  have K_Cakes_m_value := X_Cakes_m_value.kp
  have B_Cakes_m_value := X_Cakes_m_value.bindsN (ps := ["self"]) fun _ _ _ _ _ _ us hl => match us, hl with | [_], _ => rfl
  have V_Cakes_m_value : Vals [] [] := .nil
  obtain ⟨fd_Table_m_value, X_Table_m_value, G_Table_m_value⟩ := D_Table_m_value.ex
  have K_Table_m_value := X_Table_m_value.kp
  have B_Table_m_value := X_Table_m_value.bindsN (ps := ["self"]) fun _ _ _ _ _ _ us hl => match us, hl with | [_], _ => rfl
  have V_Table_m_value : Vals [] [] := .nil
  obtain ⟨fd, X⟩ := T.d_Meeting_m_value
  refine ⟨fd, X, X.ok sc_Meeting_m_value (fun vs H Q E h => len_Meeting_m_value h) (fun cdv A outer s H vs Q E hr h => ⟨t_Meeting_m_value K E, PSs.nox ?_, pure_Meeting_m_value T.FMeeting vs H Q E h⟩)⟩
  exact (pss_one (ps_ret (pe_callTy cr_tupL rfl T.z_tuple (by decide +kernel) (pa_cons (pe_lc (own := [("board", 1)]) (g := (gName 1)) (tt := tYes) rfl sc_Meeting_m_value.nd (pi_tup (pe_fld (pv 0) rfl)) (blkOk_by (N := R_Meeting_m_value) (sc := defScope s_Meeting_m_value) (by decide +kernel)) (fun _ _ _ _ _ => (pg_name (i := 1) sc_Meeting_m_value.nd rfl (Or.inl rfl))) (fun _ _ _ _ _ => pts_nil) (fun _ _ _ _ _ => (pe_orE (pe_meth0 (pv 1) T.cl_Heaps T.mt_Heaps_value G_Heaps_m_value (hr.mono (by decide)) B_Heaps_m_value .nil pass0) (pe_orE (pe_meth0 (pv 1) T.cl_Hedge T.mt_Hedge_value G_Hedge_m_value (hr.mono (by decide)) B_Hedge_m_value .nil pass0) (pe_orE (pe_meth0 (pv 1) T.cl_Floor T.mt_Floor_value G_Floor_m_value (hr.mono (by decide)) B_Floor_m_value .nil pass0) (pe_orE (pe_meth0 (pv 1) T.cl_Frogs T.mt_Frogs_value G_Frogs_m_value (hr.mono (by decide)) B_Frogs_m_value .nil pass0) (pe_orE (pe_meth0 (pv 1) T.cl_Cakes T.mt_Cakes_value G_Cakes_m_value (hr.mono (by decide)) B_Cakes_m_value .nil pass0) (pe_meth0 (pv 1) T.cl_Table T.mt_Table_value G_Table_m_value (hr.mono (by decide)) B_Table_m_value .nil pass0)))))))) pa_nil))))
theorem ok_Match_m_record {P : Program} {w : World} {K : PySem.W.Frag} {mg : Str → Option Value} {base : Heap} (T : Txt w K mg)  : O_Match_m_record P w K mg base := by
  obtain ⟨fd, X⟩ := T.d_Match_m_record
  refine ⟨fd, X, X.ok sc_Match_m_record (fun vs H Q E h => len_Match_m_record h) (fun cdv A outer s H vs Q E hr h => ⟨t_Match_m_record K E, PSs.nox ?_, pure_Match_m_record T.FMatch vs H Q E h⟩)⟩
  exact (pss_one (ps_ret (pe_callTy cr_listQ rfl T.z_list (by decide +kernel) (pa_cons (pe_fld (pv 0) rfl) pa_nil))))
theorem ok_Match_m_winner {P : Program} {w : World} {K : PySem.W.Frag} {mg : Str → Option Value} {base : Heap} (T : Txt w K mg) (D_Match_m_moves : O_Match_m_moves P w K mg base) (D_other_side : O_other_side P w K mg base) (D_Match_m_turn : O_Match_m_turn P w K mg base) : O_Match_m_winner P w K mg base := by
  obtain ⟨fd_Match_m_moves, X_Match_m_moves, G_Match_m_moves⟩ := D_Match_m_moves.ex
  have K_Match_m_moves := X_Match_m_moves.kp
  have B_Match_m_moves := X_Match_m_moves.bindsN (ps := ["self"]) fun _ _ _ _ _ _ us hl => match us, hl with | [_], _ => rfl
  have V_Match_m_moves : Vals [] [] := .nil
  obtain ⟨fd_other_side, X_other_side, G_other_side⟩ := D_other_side.ex
  have K_other_side := X_other_side.kp
  have B_other_side := X_other_side.bindsN (ps := ["side"]) fun _ _ _ _ _ _ us hl => match us, hl with | [_], _ => rfl
  have V_other_side : Vals [] [] := .nil
  obtain ⟨fd_Match_m_turn, X_Match_m_turn, G_Match_m_turn⟩ := D_Match_m_turn.ex
  have K_Match_m_turn := X_Match_m_turn.kp
  have B_Match_m_turn := X_Match_m_turn.bindsN (ps := ["self"]) fun _ _ _ _ _ _ us hl => match us, hl with | [_], _ => rfl
  have V_Match_m_turn : Vals [] [] := .nil
  obtain ⟨fd, X⟩ := T.d_Match_m_winner
  refine ⟨fd, X, X.ok sc_Match_m_winner (fun vs H Q E h => len_Match_m_winner h) (fun cdv A outer s H vs Q E hr h => ⟨t_Match_m_winner K E, PSs.nox ?_, pure_Match_m_winner vs H Q E h⟩)⟩
  exact (pss_one (ps_ret (pe_ifExp (pt_truth (pe_meth0 (pv 0) T.cl_Match T.mt_Match_moves G_Match_m_moves (hr.mono (by decide)) B_Match_m_moves .nil pass0) (by intro _; rfl)) pe_non (pe_call G_other_side (hr.mono (by decide)) rfl T.g_other_side K_other_side B_other_side V_other_side pass0 (pa_cons (pe_prop (pv 0) T.cl_Match T.pr_Match_turn G_Match_m_turn (hr.mono (by decide)) B_Match_m_turn .nil pass0 (by rfl)) pa_nil)))))
theorem ok_law_is {P : Program} {w : World} {K : PySem.W.Frag} {mg : Str → Option Value} {base : Heap} (T : Txt w K mg) (D_Match_m_turn : O_Match_m_turn P w K mg base) (D_Match_m_meeting : O_Match_m_meeting P w K mg base) (D_Meeting_m_value : O_Meeting_m_value P w K mg base) (D_Meeting_m_moves : O_Meeting_m_moves P w K mg base) (D_Heaps_m_value : O_Heaps_m_value P w K mg base) (D_Hedge_m_value : O_Hedge_m_value P w K mg base) (D_Floor_m_value : O_Floor_m_value P w K mg base) (D_Frogs_m_value : O_Frogs_m_value P w K mg base) (D_Cakes_m_value : O_Cakes_m_value P w K mg base) (D_Table_m_value : O_Table_m_value P w K mg base) (D_Match_m_moves : O_Match_m_moves P w K mg base) (D_Match_m_record : O_Match_m_record P w K mg base) (D_Match_m_winner : O_Match_m_winner P w K mg base) : O_law_is P w K mg base := by
  obtain ⟨fd_Match_m_turn, X_Match_m_turn, G_Match_m_turn⟩ := D_Match_m_turn.ex
  have K_Match_m_turn := X_Match_m_turn.kp
  have B_Match_m_turn := X_Match_m_turn.bindsN (ps := ["self"]) fun _ _ _ _ _ _ us hl => match us, hl with | [_], _ => rfl
  have V_Match_m_turn : Vals [] [] := .nil
  obtain ⟨fd_Match_m_meeting, X_Match_m_meeting, G_Match_m_meeting⟩ := D_Match_m_meeting.ex
  have K_Match_m_meeting := X_Match_m_meeting.kp
  have B_Match_m_meeting := X_Match_m_meeting.bindsN (ps := ["self"]) fun _ _ _ _ _ _ us hl => match us, hl with | [_], _ => rfl
  have V_Match_m_meeting : Vals [] [] := .nil
  obtain ⟨fd_Meeting_m_value, X_Meeting_m_value, G_Meeting_m_value⟩ := D_Meeting_m_value.ex
  have K_Meeting_m_value := X_Meeting_m_value.kp
  have B_Meeting_m_value := X_Meeting_m_value.bindsN (ps := ["self"]) fun _ _ _ _ _ _ us hl => match us, hl with | [_], _ => rfl
  have V_Meeting_m_value : Vals [] [] := .nil
  obtain ⟨fd_Meeting_m_moves, X_Meeting_m_moves, G_Meeting_m_moves⟩ := D_Meeting_m_moves.ex
  have K_Meeting_m_moves := X_Meeting_m_moves.kp
  have B_Meeting_m_moves := X_Meeting_m_moves.bindsN (ps := ["self", "side"]) fun _ _ _ _ _ _ us hl => match us, hl with | [_, _], _ => rfl
  have V_Meeting_m_moves : Vals [] [] := .nil
  obtain ⟨fd_Heaps_m_value, X_Heaps_m_value, G_Heaps_m_value⟩ := D_Heaps_m_value.ex
  have K_Heaps_m_value := X_Heaps_m_value.kp
  have B_Heaps_m_value := X_Heaps_m_value.bindsN (ps := ["self"]) fun _ _ _ _ _ _ us hl => match us, hl with | [_], _ => rfl
  have V_Heaps_m_value : Vals [] [] := .nil
  obtain ⟨fd_Hedge_m_value, X_Hedge_m_value, G_Hedge_m_value⟩ := D_Hedge_m_value.ex
  have K_Hedge_m_value := X_Hedge_m_value.kp
  have B_Hedge_m_value := X_Hedge_m_value.bindsN (ps := ["self"]) fun _ _ _ _ _ _ us hl => match us, hl with | [_], _ => rfl
  have V_Hedge_m_value : Vals [] [] := .nil
  obtain ⟨fd_Floor_m_value, X_Floor_m_value, G_Floor_m_value⟩ := D_Floor_m_value.ex
  have K_Floor_m_value := X_Floor_m_value.kp
  have B_Floor_m_value := X_Floor_m_value.bindsN (ps := ["self"]) fun _ _ _ _ _ _ us hl => match us, hl with | [_], _ => rfl
  have V_Floor_m_value : Vals [] [] := .nil
  obtain ⟨fd_Frogs_m_value, X_Frogs_m_value, G_Frogs_m_value⟩ := D_Frogs_m_value.ex
  have K_Frogs_m_value := X_Frogs_m_value.kp
  have B_Frogs_m_value := X_Frogs_m_value.bindsN (ps := ["self"]) fun _ _ _ _ _ _ us hl => match us, hl with | [_], _ => rfl
  have V_Frogs_m_value : Vals [] [] := .nil
  obtain ⟨fd_Cakes_m_value, X_Cakes_m_value, G_Cakes_m_value⟩ := D_Cakes_m_value.ex
  have K_Cakes_m_value := X_Cakes_m_value.kp
  have B_Cakes_m_value := X_Cakes_m_value.bindsN (ps := ["self"]) fun _ _ _ _ _ _ us hl => match us, hl with | [_], _ => rfl
  have V_Cakes_m_value : Vals [] [] := .nil
  obtain ⟨fd_Table_m_value, X_Table_m_value, G_Table_m_value⟩ := D_Table_m_value.ex
  have K_Table_m_value := X_Table_m_value.kp
  have B_Table_m_value := X_Table_m_value.bindsN (ps := ["self"]) fun _ _ _ _ _ _ us hl => match us, hl with | [_], _ => rfl
  have V_Table_m_value : Vals [] [] := .nil
  obtain ⟨fd_Match_m_moves, X_Match_m_moves, G_Match_m_moves⟩ := D_Match_m_moves.ex
  have K_Match_m_moves := X_Match_m_moves.kp
  have B_Match_m_moves := X_Match_m_moves.bindsN (ps := ["self"]) fun _ _ _ _ _ _ us hl => match us, hl with | [_], _ => rfl
  have V_Match_m_moves : Vals [] [] := .nil
  obtain ⟨fd_Match_m_record, X_Match_m_record, G_Match_m_record⟩ := D_Match_m_record.ex
  have K_Match_m_record := X_Match_m_record.kp
  have B_Match_m_record := X_Match_m_record.bindsN (ps := ["self"]) fun _ _ _ _ _ _ us hl => match us, hl with | [_], _ => rfl
  have V_Match_m_record : Vals [] [] := .nil
  obtain ⟨fd_Match_m_winner, X_Match_m_winner, G_Match_m_winner⟩ := D_Match_m_winner.ex
  have K_Match_m_winner := X_Match_m_winner.kp
  have B_Match_m_winner := X_Match_m_winner.bindsN (ps := ["self"]) fun _ _ _ _ _ _ us hl => match us, hl with | [_], _ => rfl
  have V_Match_m_winner : Vals [] [] := .nil
  obtain ⟨fd, X⟩ := T.d_law_is
  refine ⟨fd, X, X.ok sc_law_is (fun vs H Q E h => len_law_is h) (fun cdv A outer s H vs Q E hr h => ⟨t_law_is K E, PSs.nox ?_, pure_law_is vs H Q E h⟩)⟩
  exact (pss_cons (ps_set (i := 2) sc_law_is.nd rfl (Or.inl rfl) (pe_op op_mod (pe_op op_add (pe_dget (hu_of hr) (pv 1) pe_str (fun _ _ => rfl)) (pe_callB cr_lenQ rfl T.z_len (by decide +kernel) (pa_cons (pe_dget (hu_of hr) (pv 1) pe_str (fun _ _ => rfl)) pa_nil))) pe_int))
      (pss_cons (ps_set (i := 3) sc_law_is.nd rfl (Or.inl rfl) (pe_ix ix_list (pe_dget (hu_of hr) (pv 1) pe_str (fun _ _ => rfl)) (pe_un un_neg pe_int) (fun _ _ => rfl)))
      (pss_cons (ps_if (PW.pt (pw_or (pt_cmpR op_ne (pe_prop (pv 0) T.cl_Match T.pr_Match_turn G_Match_m_turn (hr.mono (by decide)) B_Match_m_turn .nil pass0 (by rfl)) (pe_ix ix_list (pe_lst (pa_cons pe_str (pa_cons pe_str pa_nil))) (pv 2) (fun _ _ => rfl)) (nomark _)) (pw_or1 (pt_cmpR (op_neD hr.units) (pe_meth0 (pe_prop (pv 0) T.cl_Match T.pr_Match_meeting G_Match_m_meeting (hr.mono (by decide)) B_Match_m_meeting .nil pass0 (by rfl)) T.cl_Meeting T.mt_Meeting_value G_Meeting_m_value (hr.mono (by decide)) B_Meeting_m_value .nil pass0) (pe_meth0 (pv 3) T.cl_Meeting T.mt_Meeting_value G_Meeting_m_value (hr.mono (by decide)) B_Meeting_m_value .nil pass0) (nomark _))))) (pss_one (ps_ret pe_bl)) pss_nil)
      (pss_cons (ps_setLc (i := 4) (own := [("place", 5), ("board", 6)]) (g := (gTup K 2 (gCons (gName 5) (gCons (gName 6) gNil)))) (tt := tYes) rfl sc_law_is.nd rfl rfl (sw_true rfl rfl rfl (by decide +kernel)) (pi_list (pe_meth (pv 3) T.cl_Meeting T.mt_Meeting_moves G_Meeting_m_moves (hr.mono (by decide)) B_Meeting_m_moves .nil pass0 (pa_cons (pe_prop (pv 0) T.cl_Match T.pr_Match_turn G_Match_m_turn (hr.mono (by decide)) B_Match_m_turn .nil pass0 (by rfl)) pa_nil))) (blkOk_by (N := R_law_is) (sc := defScope s_law_is) (by decide +kernel)) (fun _ _ _ _ _ => (pg_tup rfl (pgs_cons (pg_name (i := 5) sc_law_is.nd rfl (Or.inl rfl)) (pgs_cons (pg_name (i := 6) sc_law_is.nd rfl (Or.inl rfl)) pgs_nil)))) (fun _ _ _ _ _ => pts_nil) (fun _ _ _ _ _ => (pe_tup (pa_cons (pv 5) (pa_cons (pe_orE (pe_meth0 (pv 6) T.cl_Heaps T.mt_Heaps_value G_Heaps_m_value (hr.mono (by decide)) B_Heaps_m_value .nil pass0) (pe_orE (pe_meth0 (pv 6) T.cl_Hedge T.mt_Hedge_value G_Hedge_m_value (hr.mono (by decide)) B_Hedge_m_value .nil pass0) (pe_orE (pe_meth0 (pv 6) T.cl_Floor T.mt_Floor_value G_Floor_m_value (hr.mono (by decide)) B_Floor_m_value .nil pass0) (pe_orE (pe_meth0 (pv 6) T.cl_Frogs T.mt_Frogs_value G_Frogs_m_value (hr.mono (by decide)) B_Frogs_m_value .nil pass0) (pe_orE (pe_meth0 (pv 6) T.cl_Cakes T.mt_Cakes_value G_Cakes_m_value (hr.mono (by decide)) B_Cakes_m_value .nil pass0) (pe_meth0 (pv 6) T.cl_Table T.mt_Table_value G_Table_m_value (hr.mono (by decide)) B_Table_m_value .nil pass0)))))) pa_nil)))))
      (pss_cons (ps_for PassesOwn.never rfl (pi_range1 rfl T.z_range (pa_cons pe_int pa_nil)) (pg_name (i := 7) sc_law_is.nd rfl (Or.inl rfl))
      (pss_cons (ps_set (i := 8) sc_law_is.nd rfl (Or.inl rfl) (pe_meth0 (pv 0) T.cl_Match T.mt_Match_moves G_Match_m_moves (hr.mono (by decide)) B_Match_m_moves .nil pass0))
      (pss_cons (ps_if (PW.pt (pw_or (pt_not (pt_val (pe_callB call_isi rfl T.z_isinstance (by decide +kernel) (pa_cons (pv 8) (pa_cons (pe_bltn rfl T.z_list (by decide +kernel) rfl) pa_nil))))) (pw_or1 (pt_cmpR (op_neD hr.units) (pe_lc (own := [("place", 5), ("board", 6)]) (g := (gTup K 2 (gCons (gName 5) (gCons (gName 6) gNil)))) (tt := tYes) rfl sc_law_is.nd (pi_list (pv 8)) (blkOk_by (N := R_law_is) (sc := defScope s_law_is) (by decide +kernel)) (fun _ _ _ _ _ => (pg_tup rfl (pgs_cons (pg_name (i := 5) sc_law_is.nd rfl (Or.inl rfl)) (pgs_cons (pg_name (i := 6) sc_law_is.nd rfl (Or.inl rfl)) pgs_nil)))) (fun _ _ _ _ _ => pts_nil) (fun _ _ _ _ _ => (pe_tup (pa_cons (pv 5) (pa_cons (pe_orE (pe_meth0 (pv 6) T.cl_Heaps T.mt_Heaps_value G_Heaps_m_value (hr.mono (by decide)) B_Heaps_m_value .nil pass0) (pe_orE (pe_meth0 (pv 6) T.cl_Hedge T.mt_Hedge_value G_Hedge_m_value (hr.mono (by decide)) B_Hedge_m_value .nil pass0) (pe_orE (pe_meth0 (pv 6) T.cl_Floor T.mt_Floor_value G_Floor_m_value (hr.mono (by decide)) B_Floor_m_value .nil pass0) (pe_orE (pe_meth0 (pv 6) T.cl_Frogs T.mt_Frogs_value G_Frogs_m_value (hr.mono (by decide)) B_Frogs_m_value .nil pass0) (pe_orE (pe_meth0 (pv 6) T.cl_Cakes T.mt_Cakes_value G_Cakes_m_value (hr.mono (by decide)) B_Cakes_m_value .nil pass0) (pe_meth0 (pv 6) T.cl_Table T.mt_Table_value G_Table_m_value (hr.mono (by decide)) B_Table_m_value .nil pass0)))))) pa_nil))))) (pv 4) (nomark _))))) (pss_one (ps_ret pe_bl)) pss_nil)
      (pss_cons (ps_expr (pe_bm PySem.F.plainAttrs_list PySem.F.slot_list_append PySem.F.type_list_append mt_append (pv 8) (pa_cons pe_int pa_nil)))
      (pss_cons (ps_set (i := 9) sc_law_is.nd rfl (Or.inl rfl) (pe_meth0 (pv 0) T.cl_Match T.mt_Match_record G_Match_m_record (hr.mono (by decide)) B_Match_m_record .nil pass0))
      (pss_cons (ps_if (PW.pt (pw_or (pt_not (pt_val (pe_callB call_isi rfl T.z_isinstance (by decide +kernel) (pa_cons (pv 9) (pa_cons (pe_bltn rfl T.z_list (by decide +kernel) rfl) pa_nil))))) (pw_or1 (pt_cmpR (op_neD hr.units) (pv 9) (pe_dget (hu_of hr) (pv 1) pe_str (fun _ _ => rfl)) (nomark _))))) (pss_one (ps_ret pe_bl)) pss_nil)
      (pss_one (ps_expr (pe_bm PySem.F.plainAttrs_list PySem.F.slot_list_append PySem.F.type_list_append mt_append (pv 9) (pa_cons pe_int pa_nil))))))))))
      (pss_cons (ps_set (i := 10) sc_law_is.nd rfl (Or.inl rfl) pe_non)
      (Evl.pss_cut (ps_if (pt_cmpR (op_eqN hr.units) (pv 4) (pe_lst pa_nil) (nomark _)) (pss_one (ps_set (i := 10) sc_law_is.nd rfl (Or.inl rfl) (pe_ix ix_list (pe_lst (pa_cons pe_str (pa_cons pe_str pa_nil))) (pv 2) (fun _ _ => rfl)))) pss_nil)
      (pss_one (ps_ret (pe_cmpR op_eq (pe_meth0 (pv 0) T.cl_Match T.mt_Match_winner G_Match_m_winner (hr.mono (by decide)) B_Match_m_winner .nil pass0) (pv 10) (nomark _)))))))))))
theorem ok_law {P : Program} {w : World} {K : PySem.W.Frag} {mg : Str → Option Value} {base : Heap} (T : Txt w K mg) (D_law_tape : O_law_tape P w K mg base) (D_Meeting_d_init : O_Meeting_d_init P w K mg base) (D_law_draw : O_law_draw P w K mg base) (D_law_board : O_law_board P w K mg base) (D_Match_d_init : O_Match_d_init P w K mg base) (D_law_bad_side : O_law_bad_side P w K mg base) (D_law_deed : O_law_deed P w K mg base) (D_law_is : O_law_is P w K mg base) : O_law P w K mg base := by
  obtain ⟨fd_law_tape, X_law_tape, G_law_tape⟩ := D_law_tape.ex
  have K_law_tape := X_law_tape.kp
  have B_law_tape := X_law_tape.bindsN (ps := ["cell", "k"]) fun _ _ _ _ _ _ us hl => match us, hl with | [_, _], _ => rfl
  have V_law_tape : Vals [] [] := .nil
  obtain ⟨fd_Meeting_d_init, X_Meeting_d_init, G_Meeting_d_init⟩ := D_Meeting_d_init.ex
  have K_Meeting_d_init := X_Meeting_d_init.kp
  have B_Meeting_d_init := X_Meeting_d_init.bindsN (ps := ["self", "boards"]) fun _ _ _ _ _ _ us hl => match us, hl with | [_, _], _ => rfl
  have V_Meeting_d_init : Vals [] [] := .nil
  obtain ⟨fd_law_draw, X_law_draw, G_law_draw⟩ := D_law_draw.ex
  have K_law_draw := X_law_draw.kp
  have B_law_draw := X_law_draw.bindsN (ps := ["tape", "size"]) fun _ _ _ _ _ _ us hl => match us, hl with | [_, _], _ => rfl
  have V_law_draw : Vals [] [] := .nil
  obtain ⟨fd_law_board, X_law_board, G_law_board⟩ := D_law_board.ex
  have K_law_board := X_law_board.kp
  have B_law_board := X_law_board.bindsN (ps := ["tape"]) fun _ _ _ _ _ _ us hl => match us, hl with | [_], _ => rfl
  have V_law_board : Vals [] [] := .nil
  obtain ⟨fd_Match_d_init, X_Match_d_init, G_Match_d_init⟩ := D_Match_d_init.ex
  have K_Match_d_init := X_Match_d_init.kp
  have B_Match_d_init := X_Match_d_init.bindsN (ps := ["self", "meeting", "first"]) fun _ _ _ _ _ _ us hl => match us, hl with | [_, _, _], _ => rfl
  have V_Match_d_init : Vals [] [] := .nil
  obtain ⟨fd_law_bad_side, X_law_bad_side, G_law_bad_side⟩ := D_law_bad_side.ex
  have K_law_bad_side := X_law_bad_side.kp
  have B_law_bad_side := X_law_bad_side.bindsN (ps := ["meeting", "first"]) fun _ _ _ _ _ _ us hl => match us, hl with | [_, _], _ => rfl
  have V_law_bad_side : Vals [] [] := .nil
  obtain ⟨fd_law_deed, X_law_deed, G_law_deed⟩ := D_law_deed.ex
  have K_law_deed := X_law_deed.kp
  have B_law_deed := X_law_deed.bindsN (ps := ["match", "model", "tape"]) fun _ _ _ _ _ _ us hl => match us, hl with | [_, _, _], _ => rfl
  have V_law_deed : Vals [] [] := .nil
  obtain ⟨fd_law_is, X_law_is, G_law_is⟩ := D_law_is.ex
  have K_law_is := X_law_is.kp
  have B_law_is := X_law_is.bindsN (ps := ["match", "model"]) fun _ _ _ _ _ _ us hl => match us, hl with | [_, _], _ => rfl
  have V_law_is : Vals [] [] := .nil
  obtain ⟨fd, X⟩ := T.d_law
  refine ⟨fd, X, X.ok sc_law (fun vs H Q E h => len_law h) (fun cdv A outer s H vs Q E hr h => ⟨t_law K E, PSs.nox ?_, pure_law vs H Q E h⟩)⟩
  exact (pss_cons (ps_set (i := 1) sc_law.nd rfl (Or.inl rfl) (pe_lst pa_nil))
      (pss_cons (ps_set (i := 2) sc_law.nd rfl (Or.inl rfl) (pe_lst pa_nil))
      (pss_cons (ps_for PassesOwn.never rfl (pi_range1 rfl T.z_range (pa_cons pe_int pa_nil)) (pg_name (i := 3) sc_law.nd rfl (Or.inl rfl))
      (pss_cons (ps_set (i := 4) sc_law.nd rfl (Or.inr rfl) (pe_call G_law_tape (hr.mono (by decide)) rfl T.g__law_tape K_law_tape B_law_tape V_law_tape pass0 (pa_cons (pe_ix ix_list (pe_op op_catL (pv 0) (pe_lst (pa_cons (pv 3) (pa_cons (pv 3) pa_nil)))) (pv 3) (fun _ _ => rfl)) (pa_cons (pv 3) pa_nil))))
      (pss_cons (ps_set (i := 5) sc_law.nd rfl (Or.inl rfl) (pe_make T.mk_Meeting G_Meeting_d_init (hr.mono (by decide)) rfl T.g_Meeting B_Meeting_d_init V_Meeting_d_init passL (pa_cons (pe_lc (own := [("j", 6)]) (g := (gName 6)) (tt := tYes) rfl sc_law.nd (pi_range1 rfl T.z_range (pa_cons (pe_op op_add pe_int (pe_call G_law_draw (hr.mono (by decide)) rfl T.g__law_draw K_law_draw B_law_draw V_law_draw pass0 (pa_cons (pv 4) (pa_cons pe_int pa_nil)))) pa_nil)) (blkOk_by (N := R_law) (sc := defScope s_law) (by decide +kernel)) (fun _ _ _ _ _ => (pg_name (i := 6) sc_law.nd rfl (Or.inl rfl))) (fun _ _ _ _ _ => pts_nil) (fun _ _ _ _ _ => (pe_call G_law_board (hr.mono (by decide)) rfl T.g__law_board K_law_board B_law_board V_law_board pass0 (pa_cons (pv 4) pa_nil)))) pa_nil)))
      (pss_cons (ps_set (i := 7) sc_law.nd rfl (Or.inl rfl) (pe_call G_law_draw (hr.mono (by decide)) rfl T.g__law_draw K_law_draw B_law_draw V_law_draw pass0 (pa_cons (pv 4) (pa_cons pe_int pa_nil))))
      (pss_cons (ps_expr (pe_bm PySem.F.plainAttrs_list PySem.F.slot_list_append PySem.F.type_list_append mt_append (pv 1) (pa_cons (pe_make T.mk_Match G_Match_d_init (hr.mono (by decide)) rfl T.g_Match B_Match_d_init V_Match_d_init passL (pa_cons (pv 5) (pa_cons (pe_ix ix_list (pe_lst (pa_cons pe_str (pa_cons pe_str pa_nil))) (pv 7) (fun _ _ => rfl)) pa_nil))) pa_nil)))
      (pss_cons (ps_expr (pe_bm PySem.F.plainAttrs_list PySem.F.slot_list_append PySem.F.type_list_append mt_append (pv 2) (pa_cons (pe_disp (pps_cons pe_str (pv 7) (pps_cons pe_str (pe_lst (pa_cons (pv 5) pa_nil)) (pps_cons pe_str (pe_lst pa_nil) pps_nil))) (by rfl) (by rfl) (fun z => by cases z) (by decide)) pa_nil)))
      (pss_cons (ps_set (i := 8) sc_law.nd rfl (Or.inl rfl) (pe_ix ix_list (pe_lst (pa_cons pe_str (pa_cons pe_str (pa_cons pe_str (pa_cons pe_str pa_nil))))) (pe_call G_law_draw (hr.mono (by decide)) rfl T.g__law_draw K_law_draw B_law_draw V_law_draw pass0 (pa_cons (pv 4) (pa_cons pe_int pa_nil))) (fun _ _ => rfl)))
      (pss_one (ps_if (pt_not (pt_val (pe_call G_law_bad_side (hr.mono (by decide)) rfl T.g__law_bad_side K_law_bad_side B_law_bad_side V_law_bad_side pass0 (pa_cons (pv 5) (pa_cons (pv 8) pa_nil))))) (pss_one (ps_ret pe_bl)) pss_nil)))))))))
      (pss_cons (ps_for PassesOwn.never rfl (pi_range2 rfl T.z_range (pa_cons pe_int (pa_cons (pe_callB (cr_min2 rfl) rfl T.z_min (by decide +kernel) (pa_cons (pe_callB cr_lenQ rfl T.z_len (by decide +kernel) (pa_cons (pv 0) pa_nil)) (pa_cons pe_int pa_nil))) pa_nil))) (pg_name (i := 3) sc_law.nd rfl (Or.inl rfl))
      (pss_cons (ps_set (i := 4) sc_law.nd rfl (Or.inr rfl) (pe_call G_law_tape (hr.mono (by decide)) rfl T.g__law_tape K_law_tape B_law_tape V_law_tape pass0 (pa_cons (pe_ix ix_list (pv 0) (pv 3) (fun _ _ => rfl)) (pa_cons (pv 3) pa_nil))))
      (pss_cons (ps_set (i := 9) sc_law.nd rfl (Or.inl rfl) (pe_call G_law_draw (hr.mono (by decide)) rfl T.g__law_draw K_law_draw B_law_draw V_law_draw pass0 (pa_cons (pv 4) (pa_cons pe_int pa_nil))))
      (pss_one (ps_if (PW.pt (pw_or (pt_not (pt_val (pe_call G_law_deed (hr.mono (by decide)) rfl T.g__law_deed K_law_deed B_law_deed V_law_deed pass0 (pa_cons (pe_ix ix_list (pv 1) (pv 9) (fun _ _ => rfl)) (pa_cons (pe_ix ix_list (pv 2) (pv 9) (fun _ _ => rfl)) (pa_cons (pv 4) pa_nil)))))) (pw_or1 (pt_not (pt_val (pe_call G_law_is (hr.mono (by decide)) rfl T.g__law_is K_law_is B_law_is V_law_is pass0 (pa_cons (pe_ix ix_list (pv 1) (pv 9) (fun _ _ => rfl)) (pa_cons (pe_ix ix_list (pv 2) (pv 9) (fun _ _ => rfl)) pa_nil)))))))) (pss_one (ps_ret pe_bl)) pss_nil)))))
      (pss_one (ps_ret (pe_and (pe_call G_law_is (hr.mono (by decide)) rfl T.g__law_is K_law_is B_law_is V_law_is pass0 (pa_cons (pe_ix ix_list (pv 1) pe_int (fun _ _ => rfl)) (pa_cons (pe_ix ix_list (pv 2) pe_int (fun _ _ => rfl)) pa_nil))) (pe_one (pe_call G_law_is (hr.mono (by decide)) rfl T.g__law_is K_law_is B_law_is V_law_is pass0 (pa_cons (pe_ix ix_list (pv 1) pe_int (fun _ _ => rfl)) (pa_cons (pe_ix ix_list (pv 2) pe_int (fun _ _ => rfl)) pa_nil)))))))))))
theorem all_ok {P : Program} {w : World} {K : PySem.W.Frag} {mg : Str → Option Value} {base : Heap} (T : Txt w K mg) : O_law P w K mg base := by
  have h_law_tape : O_law_tape P w K mg base := ok_law_tape T 
  have h_is_board : O_is_board P w K mg base := ok_is_board T 
  have h_Meeting_d_init : O_Meeting_d_init P w K mg base := ok_Meeting_d_init T h_is_board
  have h_law_draw : O_law_draw P w K mg base := ok_law_draw T 
  have h_is_whole : O_is_whole P w K mg base := ok_is_whole T 
  have h_Heaps_d_init : O_Heaps_d_init P w K mg base := ok_Heaps_d_init T h_is_whole
  have h_law_heaps : O_law_heaps P w K mg base := ok_law_heaps T h_Heaps_d_init h_law_draw
  have h_check_edge : O_check_edge P w K mg base := ok_check_edge T h_is_whole
  have h_reached : O_reached P w K mg base := ok_reached T 
  have h_Hedge_d_init : O_Hedge_d_init P w K mg base := ok_Hedge_d_init T h_check_edge h_reached
  have h_law_hedge : O_law_hedge P w K mg base := ok_law_hedge T h_law_draw h_Hedge_d_init
  have h_Floor_d_init : O_Floor_d_init P w K mg base := ok_Floor_d_init T 
  have h_law_floor : O_law_floor P w K mg base := ok_law_floor T h_law_draw h_Floor_d_init
  have h_Frogs_d_init : O_Frogs_d_init P w K mg base := ok_Frogs_d_init T 
  have h_law_frogs : O_law_frogs P w K mg base := ok_law_frogs T h_Frogs_d_init h_law_draw
  have h_check_cake : O_check_cake P w K mg base := ok_check_cake T h_is_whole
  have h_Cakes_d_init : O_Cakes_d_init P w K mg base := ok_Cakes_d_init T h_check_cake
  have h_law_cakes : O_law_cakes P w K mg base := ok_law_cakes T h_law_draw h_Cakes_d_init
  have h_check_row : O_check_row P w K mg base := ok_check_row T h_is_whole
  have h_Table_d_init : O_Table_d_init P w K mg base := ok_Table_d_init T h_check_row h_is_whole
  have h_law_table : O_law_table P w K mg base := ok_law_table T h_law_draw h_Table_d_init
  have h_law_board : O_law_board P w K mg base := ok_law_board T h_law_draw h_law_heaps h_law_hedge h_law_floor h_law_frogs h_law_cakes h_law_table
  have h_Match_d_init : O_Match_d_init P w K mg base := ok_Match_d_init T 
  have h_law_bad_side : O_law_bad_side P w K mg base := ok_law_bad_side T h_Match_d_init
  have h_Heaps_m_moves : O_Heaps_m_moves P w K mg base := ok_Heaps_m_moves T h_Heaps_d_init
  have h_Hedge_m_value : O_Hedge_m_value P w K mg base := ok_Hedge_m_value T 
  have h_Hedge_m_moves : O_Hedge_m_moves P w K mg base := ok_Hedge_m_moves T h_Hedge_d_init h_Hedge_m_value
  have h_Floor_p_cells : O_Floor_p_cells P w K mg base := ok_Floor_p_cells T 
  have h_Floor_p_is_free : O_Floor_p_is_free P w K mg base := ok_Floor_p_is_free T 
  have h_Floor_p_covered : O_Floor_p_covered P w K mg base := ok_Floor_p_covered T h_Floor_d_init
  have h_Floor_m_moves : O_Floor_m_moves P w K mg base := ok_Floor_m_moves T h_Floor_p_cells h_Floor_p_is_free h_Floor_p_covered
  have h_Frogs_p_sign : O_Frogs_p_sign P w K mg base := ok_Frogs_p_sign T 
  have h_Frogs_p_target : O_Frogs_p_target P w K mg base := ok_Frogs_p_target T h_Frogs_p_sign
  have h_Frogs_p_moved : O_Frogs_p_moved P w K mg base := ok_Frogs_p_moved T h_Frogs_d_init
  have h_Frogs_m_moves : O_Frogs_m_moves P w K mg base := ok_Frogs_m_moves T h_Frogs_p_target h_Frogs_p_moved
  have h_cuts : O_cuts P w K mg base := ok_cuts T 
  have h_Cakes_m_moves : O_Cakes_m_moves P w K mg base := ok_Cakes_m_moves T h_cuts h_Cakes_d_init
  have h_Table_p_moved : O_Table_p_moved P w K mg base := ok_Table_p_moved T h_Table_d_init
  have h_Table_m_moves : O_Table_m_moves P w K mg base := ok_Table_m_moves T h_Table_p_moved
  have h_Meeting_m_moves : O_Meeting_m_moves P w K mg base := ok_Meeting_m_moves T h_Heaps_m_moves h_Hedge_m_moves h_Floor_m_moves h_Frogs_m_moves h_Cakes_m_moves h_Table_m_moves
  have h_Match_m_back : O_Match_m_back P w K mg base := ok_Match_m_back T 
  have h_Match_m_meeting : O_Match_m_meeting P w K mg base := ok_Match_m_meeting T 
  have h_other_side : O_other_side P w K mg base := ok_other_side T 
  have h_Match_m_turn : O_Match_m_turn P w K mg base := ok_Match_m_turn T h_other_side
  have h_Match_m_moves : O_Match_m_moves P w K mg base := ok_Match_m_moves T h_Match_m_meeting h_Meeting_m_moves h_Match_m_turn
  have h_Meeting_m_moved : O_Meeting_m_moved P w K mg base := ok_Meeting_m_moved T h_Meeting_d_init
  have h_Match_m_play : O_Match_m_play P w K mg base := ok_Match_m_play T h_Match_m_moves h_is_whole h_Match_m_meeting h_Meeting_m_moved
  have h_law_no_move : O_law_no_move P w K mg base := ok_law_no_move T h_Match_m_back h_Match_m_play
  have h_Meeting_m_boards : O_Meeting_m_boards P w K mg base := ok_Meeting_m_boards T 
  have h_law_deed : O_law_deed P w K mg base := ok_law_deed T h_Meeting_m_moves h_law_draw h_law_no_move h_Match_m_back h_Meeting_m_boards h_Meeting_d_init h_Match_m_play
  have h_Heaps_m_value : O_Heaps_m_value P w K mg base := ok_Heaps_m_value T 
  have h_Floor_m_value : O_Floor_m_value P w K mg base := ok_Floor_m_value T 
  have h_Frogs_m_value : O_Frogs_m_value P w K mg base := ok_Frogs_m_value T 
  have h_Cakes_m_value : O_Cakes_m_value P w K mg base := ok_Cakes_m_value T 
  have h_Table_m_value : O_Table_m_value P w K mg base := ok_Table_m_value T 
  have h_Meeting_m_value : O_Meeting_m_value P w K mg base := ok_Meeting_m_value T h_Heaps_m_value h_Hedge_m_value h_Floor_m_value h_Frogs_m_value h_Cakes_m_value h_Table_m_value
  have h_Match_m_record : O_Match_m_record P w K mg base := ok_Match_m_record T 
  have h_Match_m_winner : O_Match_m_winner P w K mg base := ok_Match_m_winner T h_Match_m_moves h_other_side h_Match_m_turn
  have h_law_is : O_law_is P w K mg base := ok_law_is T h_Match_m_turn h_Match_m_meeting h_Meeting_m_value h_Meeting_m_moves h_Heaps_m_value h_Hedge_m_value h_Floor_m_value h_Frogs_m_value h_Cakes_m_value h_Table_m_value h_Match_m_moves h_Match_m_record h_Match_m_winner
  have h_law : O_law P w K mg base := ok_law T h_law_tape h_Meeting_d_init h_law_draw h_law_board h_Match_d_init h_law_bad_side h_law_deed h_law_is
  exact h_law
theorem txt_of {w : World} {K : PySem.W.Frag} {h : Heap} {mg : Str → Option Value} (X : K.In h) (G : h.Ns mainGlobals mg) (c : SaysMT fs fn ts w K) : Txt w K mg where
  g_BadText := He.glo_ok X G (c.m.fact 0 rfl)
  g_BadValue := He.glo_ok X G (c.m.fact 1 rfl)
  g_COLOURS := He.glo_ok X G (c.m.fact 2 rfl)
  g_CUTS := He.glo_ok X G (c.m.fact 3 rfl)
  g_Cakes := He.glo_ok X G (c.m.fact 4 rfl)
  g_Floor := He.glo_ok X G (c.m.fact 5 rfl)
  g_Frogs := He.glo_ok X G (c.m.fact 6 rfl)
  g_Heaps := He.glo_ok X G (c.m.fact 7 rfl)
  g_Hedge := He.glo_ok X G (c.m.fact 8 rfl)
  g_MOVERS := He.glo_ok X G (c.m.fact 9 rfl)
  g_Match := He.glo_ok X G (c.m.fact 10 rfl)
  g_Meeting := He.glo_ok X G (c.m.fact 11 rfl)
  g_NoMove := He.glo_ok X G (c.m.fact 12 rfl)
  g_PlayError := He.glo_ok X G (c.m.fact 13 rfl)
  g_SHAPES := He.glo_ok X G (c.m.fact 14 rfl)
  g_SIDES := He.glo_ok X G (c.m.fact 15 rfl)
  g_SIGNS := He.glo_ok X G (c.m.fact 16 rfl)
  g_Table := He.glo_ok X G (c.m.fact 17 rfl)
  g_Unknown := He.glo_ok X G (c.m.fact 18 rfl)
  g__check_cake := He.glo_ok X G (c.m.fact 19 rfl)
  g__check_edge := He.glo_ok X G (c.m.fact 20 rfl)
  g__check_row := He.glo_ok X G (c.m.fact 21 rfl)
  g__cuts := He.glo_ok X G (c.m.fact 22 rfl)
  g__law_bad_side := He.glo_ok X G (c.m.fact 23 rfl)
  g__law_board := He.glo_ok X G (c.m.fact 24 rfl)
  g__law_cakes := He.glo_ok X G (c.m.fact 25 rfl)
  g__law_deed := He.glo_ok X G (c.m.fact 26 rfl)
  g__law_draw := He.glo_ok X G (c.m.fact 27 rfl)
  g__law_floor := He.glo_ok X G (c.m.fact 28 rfl)
  g__law_frogs := He.glo_ok X G (c.m.fact 29 rfl)
  g__law_heaps := He.glo_ok X G (c.m.fact 30 rfl)
  g__law_hedge := He.glo_ok X G (c.m.fact 31 rfl)
  g__law_is := He.glo_ok X G (c.m.fact 32 rfl)
  g__law_no_move := He.glo_ok X G (c.m.fact 33 rfl)
  g__law_table := He.glo_ok X G (c.m.fact 34 rfl)
  g__law_tape := He.glo_ok X G (c.m.fact 35 rfl)
  g__reached := He.glo_ok X G (c.m.fact 36 rfl)
  g_is_board := He.glo_ok X G (c.m.fact 37 rfl)
  g_is_whole := He.glo_ok X G (c.m.fact 38 rfl)
  g_law := He.glo_ok X G (c.m.fact 39 rfl)
  g_other_side := He.glo_ok X G (c.m.fact 40 rfl)
  z_ValueError := He.free_ok X G (c.m.fact 41 rfl)
  z_all := He.free_ok X G (c.m.fact 42 rfl)
  z_enumerate := He.free_ok X G (c.m.fact 43 rfl)
  z_int := He.free_ok X G (c.m.fact 44 rfl)
  z_isinstance := He.free_ok X G (c.m.fact 45 rfl)
  z_len := He.free_ok X G (c.m.fact 46 rfl)
  z_list := He.free_ok X G (c.m.fact 47 rfl)
  z_min := He.free_ok X G (c.m.fact 48 rfl)
  z_range := He.free_ok X G (c.m.fact 49 rfl)
  z_str := He.free_ok X G (c.m.fact 50 rfl)
  z_sum := He.free_ok X G (c.m.fact 51 rfl)
  z_tuple := He.free_ok X G (c.m.fact 52 rfl)
  z_type := He.free_ok X G (c.m.fact 53 rfl)
  tx_COLOURS := tupB_ok (c.m.fact 54 rfl)
  c_COVERED := He.str_ok X G (c.m.fact 55 rfl)
  tk_CUTS_left := kdB_ok (c.m.fact 56 rfl)
  tk_CUTS_right := kdB_ok (c.m.fact 57 rfl)
  c_FREE_floor := He.str_ok X G (c.m.fact 58 rfl)
  c_FREE_frogs := He.str_ok X G (c.m.fact 59 rfl)
  c_GROUND := He.int_ok X G (c.m.fact 60 rfl)
  c_MOST_BOARDS := He.int_ok X G (c.m.fact 61 rfl)
  c_MOST_CELLS := He.int_ok X G (c.m.fact 62 rfl)
  c_MOST_EDGES := He.int_ok X G (c.m.fact 63 rfl)
  c_MOST_HEAPS := He.int_ok X G (c.m.fact 64 rfl)
  c_MOST_KNOT := He.int_ok X G (c.m.fact 65 rfl)
  c_MOST_LENGTH := He.int_ok X G (c.m.fact 66 rfl)
  c_MOST_PLACES := He.int_ok X G (c.m.fact 67 rfl)
  c_MOST_ROWS := He.int_ok X G (c.m.fact 68 rfl)
  c_MOST_SIZE := He.int_ok X G (c.m.fact 69 rfl)
  c_MOST_SQUARES := He.int_ok X G (c.m.fact 70 rfl)
  tk_MOVERS_left := kdB_ok (c.m.fact 71 rfl)
  tk_MOVERS_right := kdB_ok (c.m.fact 72 rfl)
  tk_SHAPES_left := kdB_ok (c.m.fact 73 rfl)
  tk_SHAPES_right := kdB_ok (c.m.fact 74 rfl)
  tx_SIDES := tupB_ok (c.m.fact 75 rfl)
  tx_SIGNS := tupB_ok (c.m.fact 76 rfl)
  cl_Cakes := He.cls_ok (c.m.fact 77 rfl)
  cl_Floor := He.cls_ok (c.m.fact 78 rfl)
  cl_Frogs := He.cls_ok (c.m.fact 79 rfl)
  cl_Heaps := He.cls_ok (c.m.fact 80 rfl)
  cl_Hedge := He.cls_ok (c.m.fact 81 rfl)
  cl_Match := He.cls_ok (c.m.fact 82 rfl)
  cl_Meeting := He.cls_ok (c.m.fact 83 rfl)
  cl_Table := He.cls_ok (c.m.fact 84 rfl)
  x_BadValue := He.exc_ok (c.m.fact 85 rfl)
  x_NoMove := He.exc_ok (c.m.fact 86 rfl)
  xc_BadValue := excC_ok (c.m.fact 87 rfl)
  xc_NoMove := excC_ok (c.m.fact 88 rfl)
  em_BadValue_BadValue := of_decide_eq_true (c.m.fact 89 rfl)
  em_NoMove_NoMove := of_decide_eq_true (c.m.fact 90 rfl)
  ki_BadValue_NoMove := of_decide_eq_true (c.m.fact 91 rfl)
  ki_BadValue_PlayError := of_decide_eq_true (c.m.fact 92 rfl)
  ki_NoMove_BadText := of_decide_eq_true (c.m.fact 93 rfl)
  ki_NoMove_BadValue := of_decide_eq_true (c.m.fact 94 rfl)
  ki_NoMove_PlayError := of_decide_eq_true (c.m.fact 95 rfl)
  ki_NoMove_Unknown := of_decide_eq_true (c.m.fact 96 rfl)
  ki_NoMove_ValueError := of_decide_eq_true (c.m.fact 97 rfl)
  mt_Cakes_moves := He.meth_ok (c.m.fact 98 rfl)
  mt_Cakes_value := He.meth_ok (c.m.fact 99 rfl)
  mt_Floor__cells := He.meth_ok (c.m.fact 100 rfl)
  mt_Floor__covered := He.meth_ok (c.m.fact 101 rfl)
  mt_Floor__is_free := He.meth_ok (c.m.fact 102 rfl)
  mt_Floor_moves := He.meth_ok (c.m.fact 103 rfl)
  mt_Floor_value := He.meth_ok (c.m.fact 104 rfl)
  mt_Frogs__moved := He.meth_ok (c.m.fact 105 rfl)
  mt_Frogs__sign := He.meth_ok (c.m.fact 106 rfl)
  mt_Frogs__target := He.meth_ok (c.m.fact 107 rfl)
  mt_Frogs_moves := He.meth_ok (c.m.fact 108 rfl)
  mt_Frogs_value := He.meth_ok (c.m.fact 109 rfl)
  mt_Heaps_moves := He.meth_ok (c.m.fact 110 rfl)
  mt_Heaps_value := He.meth_ok (c.m.fact 111 rfl)
  mt_Hedge_moves := He.meth_ok (c.m.fact 112 rfl)
  mt_Hedge_value := He.meth_ok (c.m.fact 113 rfl)
  mt_Match_back := He.meth_ok (c.m.fact 114 rfl)
  mt_Match_moves := He.meth_ok (c.m.fact 115 rfl)
  mt_Match_play := He.meth_ok (c.m.fact 116 rfl)
  mt_Match_record := He.meth_ok (c.m.fact 117 rfl)
  mt_Match_winner := He.meth_ok (c.m.fact 118 rfl)
  mt_Meeting_boards := He.meth_ok (c.m.fact 119 rfl)
  mt_Meeting_moved := He.meth_ok (c.m.fact 120 rfl)
  mt_Meeting_moves := He.meth_ok (c.m.fact 121 rfl)
  mt_Meeting_value := He.meth_ok (c.m.fact 122 rfl)
  mt_Table__moved := He.meth_ok (c.m.fact 123 rfl)
  mt_Table_moves := He.meth_ok (c.m.fact 124 rfl)
  mt_Table_value := He.meth_ok (c.m.fact 125 rfl)
  mk_Cakes := He.mkr_ok (c.m.fact 126 rfl)
  mk_Floor := He.mkr_ok (c.m.fact 127 rfl)
  mk_Frogs := He.mkr_ok (c.m.fact 128 rfl)
  mk_Heaps := He.mkr_ok (c.m.fact 129 rfl)
  mk_Hedge := He.mkr_ok (c.m.fact 130 rfl)
  mk_Match := He.mkr_ok (c.m.fact 131 rfl)
  mk_Meeting := He.mkr_ok (c.m.fact 132 rfl)
  mk_Table := He.mkr_ok (c.m.fact 133 rfl)
  ne_Meeting_Cakes := of_decide_eq_true (c.m.fact 134 rfl)
  ne_Meeting_Floor := of_decide_eq_true (c.m.fact 135 rfl)
  ne_Meeting_Frogs := of_decide_eq_true (c.m.fact 136 rfl)
  ne_Meeting_Heaps := of_decide_eq_true (c.m.fact 137 rfl)
  ne_Meeting_Hedge := of_decide_eq_true (c.m.fact 138 rfl)
  ne_Meeting_Table := of_decide_eq_true (c.m.fact 139 rfl)
  na_Cakes__cakes := He.noat_ok (c.m.fact 140 rfl)
  na_Floor__rows := He.noat_ok (c.m.fact 141 rfl)
  na_Frogs__line := He.noat_ok (c.m.fact 142 rfl)
  na_Heaps__sizes := He.noat_ok (c.m.fact 143 rfl)
  na_Hedge__edges := He.noat_ok (c.m.fact 144 rfl)
  na_Match__first := He.noat_ok (c.m.fact 145 rfl)
  na_Match__indexes := He.noat_ok (c.m.fact 146 rfl)
  na_Match__meetings := He.noat_ok (c.m.fact 147 rfl)
  na_Meeting__boards := He.noat_ok (c.m.fact 148 rfl)
  na_Table__place := He.noat_ok (c.m.fact 149 rfl)
  na_Table__rows := He.noat_ok (c.m.fact 150 rfl)
  pr_Match_meeting := prop_ok (c.m.fact 151 rfl)
  pr_Match_turn := prop_ok (c.m.fact 152 rfl)
  d_law_tape := c.m.dfn 0 rfl
  d_is_board := c.m.dfn 1 rfl
  d_Meeting_d_init := c.m.dfn 2 rfl
  d_law_draw := c.m.dfn 3 rfl
  d_is_whole := c.m.dfn 4 rfl
  d_Heaps_d_init := c.m.dfn 5 rfl
  d_law_heaps := c.m.dfn 6 rfl
  d_check_edge := c.m.dfn 7 rfl
  d_reached := c.m.dfn 8 rfl
  d_Hedge_d_init := c.m.dfn 9 rfl
  d_law_hedge := c.m.dfn 10 rfl
  d_Floor_d_init := c.m.dfn 11 rfl
  d_law_floor := c.m.dfn 12 rfl
  d_Frogs_d_init := c.m.dfn 13 rfl
  d_law_frogs := c.m.dfn 14 rfl
  d_check_cake := c.m.dfn 15 rfl
  d_Cakes_d_init := c.m.dfn 16 rfl
  d_law_cakes := c.m.dfn 17 rfl
  d_check_row := c.m.dfn 18 rfl
  d_Table_d_init := c.m.dfn 19 rfl
  d_law_table := c.m.dfn 20 rfl
  d_law_board := c.m.dfn 21 rfl
  d_Match_d_init := c.m.dfn 22 rfl
  d_law_bad_side := c.m.dfn 23 rfl
  d_Heaps_m_moves := c.m.dfn 24 rfl
  d_Hedge_m_value := c.m.dfn 25 rfl
  d_Hedge_m_moves := c.m.dfn 26 rfl
  d_Floor_p_cells := c.m.dfn 27 rfl
  d_Floor_p_is_free := c.m.dfn 28 rfl
  d_Floor_p_covered := c.m.dfn 29 rfl
  d_Floor_m_moves := c.m.dfn 30 rfl
  d_Frogs_p_sign := c.m.dfn 31 rfl
  d_Frogs_p_target := c.m.dfn 32 rfl
  d_Frogs_p_moved := c.m.dfn 33 rfl
  d_Frogs_m_moves := c.m.dfn 34 rfl
  d_cuts := c.m.dfn 35 rfl
  d_Cakes_m_moves := c.m.dfn 36 rfl
  d_Table_p_moved := c.m.dfn 37 rfl
  d_Table_m_moves := c.m.dfn 38 rfl
  d_Meeting_m_moves := c.m.dfn 39 rfl
  d_Match_m_back := c.m.dfn 40 rfl
  d_Match_m_meeting := c.m.dfn 41 rfl
  d_other_side := c.m.dfn 42 rfl
  d_Match_m_turn := c.m.dfn 43 rfl
  d_Match_m_moves := c.m.dfn 44 rfl
  d_Meeting_m_moved := c.m.dfn 45 rfl
  d_Match_m_play := c.m.dfn 46 rfl
  d_law_no_move := c.m.dfn 47 rfl
  d_Meeting_m_boards := c.m.dfn 48 rfl
  d_law_deed := c.m.dfn 49 rfl
  d_Heaps_m_value := c.m.dfn 50 rfl
  d_Floor_m_value := c.m.dfn 51 rfl
  d_Frogs_m_value := c.m.dfn 52 rfl
  d_Cakes_m_value := c.m.dfn 53 rfl
  d_Table_m_value := c.m.dfn 54 rfl
  d_Meeting_m_value := c.m.dfn 55 rfl
  d_Match_m_record := c.m.dfn 56 rfl
  d_Match_m_winner := c.m.dfn 57 rfl
  d_law_is := c.m.dfn 58 rfl
  d_law := c.m.dfn 59 rfl
  kd_CUTS := c.tab 0 rfl
  kd_MOVERS := c.tab 1 rfl
  kd_SHAPES := c.tab 2 rfl
theorem facts {P : Program} {w : World} {K : PySem.W.Frag} {h : Heap} {mg : Str → Option Value} {f : Addr} (X : K.In h) (G : h.Ns mainGlobals mg) (hfa : mg ("law" : Str) = some (.ref f)) (c : SaysMT fs fn ts w K) (hg : (He.Fa.glo "law").ok K = true) :
    ∃ fd : FuncData, (∀ (s : Shared) (v : Value), BindsTo s fd ⟨[v], []⟩ [("script", v)]) ∧ ∀ base : Heap, K.In base → base.Ns mainGlobals mg → FnOk P w K mg base CX0 12 f fd ["script"] (sp_law K) := by
  have T := txt_of X G c
  obtain ⟨fd, F⟩ := T.d_law
  have e := hfa.symm.trans (He.glo_ok X G hg)
  cases e
  have b := FunD.bindsA (ps := ["script"]) F fun _ _ _ _ _ _ us hl => match us, hl with | [_], _ => rfl
  refine ⟨fd, fun s v => b s [v] rfl, fun base _ _ => ?_⟩
  obtain ⟨fd2, F2, G2⟩ := (all_ok (P := P) (w := w) (base := base) T).ex
  have e2 : fd2 = fd := fd_same F2 F
  rw [← e2]; exact G2
end Mine
open PySem PySem.W PySem.Calls PyProof.Rows
set_option maxRecDepth 100000 in
set_option maxHeartbeats 0 in
theorem PySem.Challenge.cw_sumsplay_k73_matches_played_holds : PySem.Challenge.rw_sumsplay_k73_matches_played.Holds := by
  w_on; o_law
  refine HandSHeadRun.head_any (r := OpenLaw.row PySem.Challenge.rw_sumsplay_k73_matches_played) (q := view (OpenLaw.row PySem.Challenge.rw_sumsplay_k73_matches_played).prog [68]) (H := Mine.Hd.hk) (ob := Mine.Hd.ob) (M := 20000) (loose := Mine.Hd.loose) (d := HandSHeadRun.topDef (OpenLaw.row PySem.Challenge.rw_sumsplay_k73_matches_played).prog 68) (kwd := []) Mine.Hd.ob_eq
    (by kernel_rfl) (fun s => by kernel_rfl) Mine.Hd.run (by kernel_rfl) (by kernel_rfl) (by kernel_rfl) (by rfl) (by first | assumption | decide +kernel) (by decide +kernel) ⟨rfl, rfl, rfl, rfl, rfl, by decide +kernel⟩ ?hw ?hc
  case hw => w_witness2
  case hc =>
    refine L2.walk_ofE (l := PySem.Challenge.rw_sumsplay_k73_matches_played) (n := 63) (k := 12) (x := "script") (CX := L2.CX0) rfl (by decide) (by kernel_rfl) ⟨rfl, by decide, by decide⟩ ?F (fun _ _ _ _ z => z)
    intro w mg fa h Y G hmg0
    obtain ⟨K, KX, c⟩ := Y
    have hmg : mg ("law" : PySem.Str) = some (.ref fa) := by
      have e : (HandSHeadRun.topDef (OpenLaw.row PySem.Challenge.rw_sumsplay_k73_matches_played).prog 68).name = ("law" : PySem.Str) := by kernel_rfl
      rw [← e]
      exact hmg0
    obtain ⟨fd, hb, hF⟩ := Mine.facts (P := (PySem.Challenge.rw_sumsplay_k73_matches_played).prog) (w := w) KX G hmg c (c.m.fact 39 rfl)
    exact ⟨K, fd, Mine.sp_law K, KX, hb, fun H a ns hl _ hS => ⟨⟨a, ns, rfl, hS, hl⟩, fun v H' e => e⟩, hF⟩
