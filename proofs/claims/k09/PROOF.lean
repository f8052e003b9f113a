import PyProof.Rows.All
import Wide.All
import OpenK.AllK
import Wide.FinOn
import HandS.Base
import HandS.Call
import HandS.List
import HandS.Comp
import HandS.Ends
import HandS.EndBits
import HandS.Iter
import HandS.Text
import HandS.TupAny
import HandS.Deep
import HandS.IsInst
import HandS.NoneIn
import HandS.Words
import HandS.WordsList
import HandS.WordsExc
import HandS.ExcInit
import HandS.ExcIs
import HandS.Walk
import KE.IntBitsLaws
import KE.DataMinMax
import KE.SortData
import KE.GoesMore
import KE.GoesEnum
import KE.KExcIs
import HandS.ExcField
import HandS.TryOnly
import PyProof.ReprRoads
import PyProof.Rows.RegFStrParts
import HandS.Dict
import HandS.WordsDict
import HandS.Conv
import HandS.TupLen
import HandS.SortInts
import PyProof.AutoSeq1
import HandS.RaiseMore
import HandS.TupMul
import PyProof.Rows.StrReprFit
import PyProof.Rows.ReprShort
import PyProof.EnumMake
import PyProof.ListStr
import HandS.Property
import HandS.Star
import HandS.More
import OpenK.KOps
import PyProof.StrLawsIn
import HandS.DictComp
import HandS.OwnEq
import HandS.Codes
import HandS.TryMany
import HandS.Flow
import KE.SortKeyHeap
import HandS.SortKw
import KE.DatumOrd
import KE.OsRunLaw
import PySem.Challenge.RW_shrunkalike_k09_whole_settled
set_option Elab.async false
set_option linter.all false
set_option maxRecDepth 100000
namespace Wp
open PySem PySem.Spec PyProof.Rows L2
/-! unions of the layer's rules, by the kinds of their operands -/
def rLt : R2 := fun x y H Q => rI0 (fun i j => .bl (decide (i < j))) x y H Q ∨ ∃ i j, x = .str i ∧ y = .str j ∧ Q (.bl (decide (i.cps.toList < j.cps.toList))) H
def rLeD (K : PySem.W.Frag) : R2 := fun x y H Q => ∃ d e, Dp K H x d ∧ Dp K H y e ∧ PySem.W.alike d e = true ∧ d ≠ .none ∧ d.depth ≤ 60 ∧ Q (.bl (!PySem.W.dataLt e d)) H
def rLe (K : PySem.W.Frag) : R2 := fun x y H Q => rI0 (fun i j => .bl (decide (i ≤ j))) x y H Q ∨ (∃ i j, x = .str i ∧ y = .str j ∧ Q (.bl (!decide (j.cps.toList < i.cps.toList))) H) ∨ rLeD K x y H Q
def rInSg (neg : Bool) : R2 := fun x y H Q => ∃ (c : Nat) (z : Str), x = .str ⟨#[c]⟩ ∧ y = .str z ∧ Q (.bl (if neg then !decide (c ∈ z.cps.toList) else decide (c ∈ z.cps.toList))) H
def rGt : R2 := rI0 (fun i j => .bl (decide (j < i)))
def rGe : R2 := rI0 (fun i j => .bl (decide (j ≤ i)))
def rEqU (K : PySem.W.Frag) : R2 := fun x y H Q => rEq x y H Q ∨ rEqD K x y H Q
def rNeU (K : PySem.W.Frag) : R2 := fun x y H Q => rNe x y H Q ∨ rNeD K x y H Q
def rInStr (neg : Bool) : R2 := fun x y H Q => ∃ i j, x = .str i ∧ y = .str j ∧ Q (.bl (if neg then !(!(Builtin.Str.occurrences j i 0 j.length 1).isEmpty) else !(Builtin.Str.occurrences j i 0 j.length 1).isEmpty)) H
def rInU (K : PySem.W.Frag) : R2 := fun x y H Q => rInSg false x y H Q ∨ rInStr false x y H Q ∨ rInD K x y H Q
def rNinU (K : PySem.W.Frag) : R2 := fun x y H Q => rInStr true x y H Q ∨ rNotInD K x y H Q
def rAddU (K : PySem.W.Frag) : R2 := fun x y H Q => rI0 (fun i j => .int (i + j)) x y H Q ∨ (∃ i j, x = .str i ∧ y = .str j ∧ i.length + j.length ≤ sizeLine ∧ Q (.str (i ++ j)) H) ∨ rCatA K x y H Q ∨ rCat x y H Q
def rMulU : R2 := fun x y H Q => rI CMul (fun i j => .int (i * j)) x y H Q ∨ rRep x y H Q
def CShl (i j : Int) : Prop := 0 ≤ j ∧ (Builtin.Int.intBits i : Int) + j ≤ 2 ^ 27
def rSlU (K : PySem.W.Frag) : V → Option Int → Option Int → Hp → VK → Prop := fun x l u H Q => rSlL K x l u H Q ∨ rSlA K x l u H Q ∨ rSlS x l u H Q
def rInt : List V → Hp → VK → Prop := fun xs H Q => (∃ i, xs = [V.int i] ∧ Q (.int i) H) ∨ ∃ k, xs = [V.bl k] ∧ Q (.int (if k then 1 else 0)) H
def rLenU (K : PySem.W.Frag) : List V → Hp → VK → Prop := fun xs H Q => ∃ x n, xs = [x] ∧ LenV K x H n ∧ Q (.int n) H
def rAbs : List V → Hp → VK → Prop := fun xs H Q => ∃ i, xs = [.int i] ∧ Q (.int (if i < 0 then -i else i)) H
def rMax2 : List V → Hp → VK → Prop := fun xs H Q => ∃ i j, xs = [.int i, .int j] ∧ Q (.int (if j > i then j else i)) H
def rMin2 : List V → Hp → VK → Prop := fun xs H Q => ∃ i j, xs = [.int i, .int j] ∧ Q (.int (if j < i then j else i)) H
def rTupOf (K : PySem.W.Frag) : List V → Hp → VK → Prop := fun xs H Q => ∃ p ys, xs = [.ref p] ∧ ((SqL K H p ys ∧ ∀ l, H l = none → Q (.ref l) (upd H l (.tup ys))) ∨ (SqT K H p ys ∧ Q (.ref p) H))
def rLstOf (K : PySem.W.Frag) : List V → Hp → VK → Prop := fun xs H Q => ∃ p ys, xs = [.ref p] ∧ (SqL K H p ys ∨ SqT K H p ys) ∧ ∀ l, H l = none → Q (.ref l) (upd H l (.lst ys))
def rIsU (K : PySem.W.Frag) : List V → Hp → VK → Prop := fun xs H Q => rIsi K xs H Q ∨ rIsiT K xs H Q
section
variable {X : Cx}
theorem wo_lt : OpR X (compareOp .Lt) rLt := op_lt.or op_lt_str
theorem op_leD (hu : X.A.units + 64 < cLine) : OpR X (compareOp .LtE) (rLeD X.K) := by
  intro pins s σ H x y v u Q I rx ry h
  obtain ⟨d, e, hd, he, al, nn, dp, q⟩ := h
  obtain ⟨as, r1⟩ := Dp.reads I d x v hd rx
  obtain ⟨bs, r2⟩ := Dp.reads I e y u he ry
  have hm : min d.depth e.depth ≤ d.depth := Nat.min_le_left _ _
  exact PySem.W.le_data r1 r2 al nn (by omega) ⟨.bl _, H, I, rfl, q⟩
theorem wo_le {K : PySem.W.Frag} (hu : X.A.units + 64 < cLine) (hK : X.K = K := by rfl) : OpR X (compareOp .LtE) (rLe K) := by subst hK; exact op_le.or (op_le_str.or (op_leD hu))
theorem wo_gt : OpR X (compareOp .Gt) rGt := op_gt
theorem wo_ge : OpR X (compareOp .GtE) rGe := op_ge
theorem wo_eq {K : PySem.W.Frag} (hu : X.A.units + 64 < cLine) (hK : X.K = K := by rfl) : OpR X (compareOp .Eq) (rEqU K) := by subst hK; exact op_eq.or (op_eqD hu)
theorem wo_ne {K : PySem.W.Frag} (hu : X.A.units + 64 < cLine) (hK : X.K = K := by rfl) : OpR X (compareOp .NotEq) (rNeU K) := by subst hK; exact op_ne.or (op_neD hu)
theorem wo_in {K : PySem.W.Frag} (hu : X.A.units + 65 < cLine) (hK : X.K = K := by rfl) : OpR X (compareOp .In) (rInU K) := by subst hK; exact op_in_sign.or (op_in_str.or (op_inD hu))
theorem wo_nin {K : PySem.W.Frag} (hu : X.A.units + 65 < cLine) (hK : X.K = K := by rfl) : OpR X (compareOp .NotIn) (rNinU K) := by subst hK; exact op_notin_str.or (op_notInD hu)
theorem wo_add {K : PySem.W.Frag} (hK : X.K = K := by rfl) : OpR X (binaryOp .Add) (rAddU K) := by subst hK; exact op_add.or (op_add_str.or (op_catA.or op_cat))
theorem wo_mul : OpR X (binaryOp .Mult) rMulU := op_mul.or op_rep
theorem op_shlB : OpR X (binaryOp .LShift) (rI CShl fun i j => .int (i * 2 ^ j.toNat)) := opI fun _ _ _ _ _ _ _ hc q => PyProof.Rows.lshift_int hc.1 hc.2 q
theorem ws_any {K : PySem.W.Frag} (hK : X.K = K := by rfl) : SlR X (rSlU K) := by subst hK; exact sl_list.or (sl_tupA.or sl_str)
theorem wx_seq {K : PySem.W.Frag} (hK : X.K = K := by rfl) : IxR X (rIx K) := by subst hK; exact ix_seq
theorem wi_list {tg l : Expr} {tl : TE} {K : PySem.W.Frag} (hl : PE X l tl) (hK : X.K = K := by rfl) : PI X tg l (iList K tl) := by subst hK; exact pi_list hl
theorem wi_tup {tg l : Expr} {tl : TE} {K : PySem.W.Frag} (hl : PE X l tl) (hK : X.K = K := by rfl) : PI X tg l (iTup K tl) := by subst hK; exact pi_tup hl
theorem wc_all {K : PySem.W.Frag} (hc : X.calm = true) (hK : X.K = K := by rfl) : CallR X (.builtin "all") (rAll K) := by subst hK; exact cr_all hc
theorem wc_int : CallR X (.type "int") rInt := call_int1
theorem wc_len {K : PySem.W.Frag} (hK : X.K = K := by rfl) : CallR X (.builtin "len") (rLenU K) := by subst hK; exact call_len
theorem wc_abs : CallR X (.builtin "abs") rAbs := call_abs
theorem wc_min (hc : X.calm = true) : CallR X (.builtin "min") rMin2 := call_min2 hc
theorem wc_tuple {K : PySem.W.Frag} (hK : X.K = K := by rfl) : CallR X (.type "tuple") (rTupOf K) := by subst hK; exact call_tuple_of
theorem wc_isi {K : PySem.W.Frag} (hK : X.K = K := by rfl) : CallR X (.builtin "isinstance") (rIsU K) := by subst hK; exact call_isi.or call_isiT
def gTupU (K : PySem.W.Frag) (n : Nat) (t : TGs) : TG := fun v σ H Q => gTup K n t v σ H Q ∨ gUnl K n t v σ H Q
theorem wg_tup {es : List Expr} {k : Nat} {t : TGs} {n : Nat} {pos : Pos} {K : PySem.W.Frag} (hc : X.calm = true) (h : PGs X es t) (hn : (assignEach es X.env).length = n := by rfl) (hst : (assignEach es X.env).findIdx? (·.1) = none := by rfl) (hK : X.K = K := by rfl) :
    PG X (.Tuple es k pos) (gTupU K n t) := by
  subst hK
  exact ⟨fun pins s σ H v u Q I r hw => hw.elim (fun hw => (pg_tup hc h hn hst).run pins s σ H v u Q I r hw) (fun hw => (pg_unl hc h hn hst).run pins s σ H v u Q I r hw)⟩
theorem u65 {k : Nat} {A : Around} (r : Room k A) : A.units + 65 < cLine := by have := r.un; omega
end
def tTru (K : PySem.W.Frag) (ta : TE) : TT := fun σ H Q => ta σ H fun x H' => ∃ k, TruV K x H' k ∧ Q k H'
theorem wt_truth {X : Cx} {K : PySem.W.Frag} {a : Expr} {ta : TE} (ha : PE X a ta) (he : ∀ whole, isTrue a X.env whole = (do let v ← whole; standAt a.pos; holding [v] (truthy v))) (hK : X.K = K := by rfl) : PT X a (tTru K ta) := by subst hK; exact pt_truth ha he
/-! one step of a reading -/
section
variable {σ : L2.St} {H : Hp} {Q : VK} {D : Ends} {K : PySem.W.Frag}
theorem seq {t u : TS} (h : t ⟨u D, D.rt, D.bk, D.ct⟩ σ H) : tSeq t u D σ H := h
theorem asg {te : TE} {g : TG} (h : te σ H fun x H1 => g x σ H1 D.nx) : tAsg te g D σ H := h
theorem ret {te : TE} (h : te σ H D.rt) : tRet te D σ H := h
theorem retN (h : D.rt .non H) : tRetN D σ H := h
theorem drop {te : TE} (h : te σ H fun _ H1 => D.nx σ H1) : tDrop te D σ H := h
theorem nxt (h : D.nx σ H) : tNext D σ H := h
theorem ifs {c : TT} {t u : TS} (h : c σ H fun b H1 => if b = true then t D σ H1 else u D σ H1) : tIfS c t u D σ H := h
theorem gname {i : Nat} {v : V} {R : L2.St → Hp → Prop} (h : R (σ.set i (some v)) H) : gName i v σ H R := h
theorem var {i : Nat} {v : V} (e : σ[i]? = some (some v)) (h : Q v H) : tVar i σ H Q := ⟨v, e, h⟩
theorem cst {v : V} (h : Q v H) : tC v σ H Q := h
theorem op {r : R2} {ta tb : TE} (h : ta σ H fun x H1 => tb σ H1 fun y H2 => r x y H2 Q) : tOp r ta tb σ H Q := h
theorem un {r : V → Hp → VK → Prop} {ta : TE} (h : ta σ H fun x H1 => r x H1 Q) : tUn r ta σ H Q := h
theorem tst {t : TE} {R : Bool → Hp → Prop} (h : t σ H fun x H' => ∃ k, x = .bl k ∧ R k H') : tTest t σ H R := h
theorem tb' {t : TE} {R : Bool → Hp → Prop} (h : t σ H fun x H' => ∃ k, x = .bl k ∧ R k H') : tB t σ H R := h
theorem tnot {t : TT} {R : Bool → Hp → Prop} (h : t σ H fun c H1 => R (!c) H1) : tNot t σ H R := h
theorem tand {t u : TT} {R : Bool → Hp → Prop} (h : t σ H fun c H1 => if c = true then u σ H1 R else R false H1) : tAnd t u σ H R := h
theorem tor {t u : TT} {R : Bool → Hp → Prop} (h : t σ H fun c H1 => if c = true then R true H1 else u σ H1 R) : tOr t u σ H R := h
theorem tandV {ta tb : TE} (h : ta σ H fun x H1 => ∃ c, x = .bl c ∧ if c = true then tb σ H1 Q else Q (.bl false) H1) : tAndV ta tb σ H Q := h
theorem torV {ta tb : TE} (h : ta σ H fun x H1 => ∃ c, x = .bl c ∧ if c = true then Q (.bl true) H1 else tb σ H1 Q) : tOrV ta tb σ H Q := h
theorem tnotV {ta : TE} (h : ta σ H fun x H1 => ∃ c, x = .bl c ∧ Q (.bl (!c)) H1) : tNotV ta σ H Q := h
theorem tif {t : TT} {ta tb : TE} (h : t σ H fun c H1 => if c = true then ta σ H1 Q else tb σ H1 Q) : tIf t ta tb σ H Q := h
theorem tchain {r r' : R2} {ta tb tc : TE} (h : ta σ H fun x H1 => tb σ H1 fun y H2 => r x y H2 fun z H3 => ∃ k, z = .bl k ∧ (if k = true then tc σ H3 fun w' H4 => r' y w' H4 Q else Q (.bl false) H3)) : tChain r r' ta tb tc σ H Q := h
theorem cb {r : List V → Hp → VK → Prop} {t : TA} (h : t σ H fun vs H1 => r vs H1 Q) : tCB r t σ H Q := h
theorem call {sp : Sp} {dvs : List V} {E : XK} {t : TA} (h : t σ H fun vs H1 => sp (vs ++ dvs) H1 Q E) : tCall sp dvs E t σ H Q := h
theorem cons {ta : TE} {tr : TA} {R : List V → Hp → Prop} (h : ta σ H fun x H1 => tr σ H1 fun xs H2 => R (x :: xs) H2) : tCons ta tr σ H R := h
theorem nil {R : List V → Hp → Prop} (h : R [] H) : tNil σ H R := h
theorem sl {r : V → Option Int → Option Int → Hp → VK → Prop} {te : TE} {tl th : TO} (h : te σ H fun x H1 => tl σ H1 fun l H2 => th σ H2 fun u H3 => r x l u H3 Q) : tSl r te tl th σ H Q := h
theorem nopart {R : Option Int → Hp → Prop} (h : R none H) : tNoPart σ H R := h
theorem part {te : TE} {R : Option Int → Hp → Prop} (h : te σ H fun x H1 => ∃ i, x = .int i ∧ R (some i) H1) : tPart te σ H R := h
theorem gsub {to ti : TE} {t : TSet} {v : V} {R : L2.St → Hp → Prop} (h : to σ H fun o H1 => ti σ H1 fun i H2 => t o i v H2 fun H3 => R σ H3) : gSub to ti t v σ H R := h
theorem lst {t : TA} (h : t σ H fun xs H1 => xs.length ≤ sizeLine ∧ ∀ p, H1 p = none → Q (.ref p) (upd H1 p (.lst xs))) : tLst t σ H Q := h
theorem tup {t : TA} (h : t σ H fun xs H1 => xs.length ≤ sizeLine ∧ ∀ p, H1 p = none → Q (.ref p) (upd H1 p (.tup xs))) : tTup t σ H Q := h
theorem szl {xs : List V} {P : Prop} (h : xs.length ≤ 1000) (q : P) : xs.length ≤ sizeLine ∧ P := ⟨Nat.le_of_lt (small1000 h), q⟩
theorem ei {i : Int} {R : Int → Prop} (h : R i) : ∃ j, V.int i = V.int j ∧ R j := ⟨i, rfl, h⟩
theorem eb {k : Bool} {R : Bool → Prop} (h : R k) : ∃ c, V.bl k = V.bl c ∧ R c := ⟨k, rfl, h⟩
/-! operators by values -/
theorem i0 {g : Int → Int → V} {i j : Int} (h : Q (g i j) H) : rI0 g (.int i) (.int j) H Q := ⟨i, j, rfl, rfl, h⟩
theorem ltI {i j : Int} (h : Q (.bl (decide (i < j))) H) : rLt (.int i) (.int j) H Q := .inl ⟨i, j, rfl, rfl, h⟩
theorem ltS {i j : Str} (h : Q (.bl (decide (i.cps.toList < j.cps.toList))) H) : rLt (.str i) (.str j) H Q := .inr ⟨i, j, rfl, rfl, h⟩
theorem leI {i j : Int} (h : Q (.bl (decide (i ≤ j))) H) : rLe K (.int i) (.int j) H Q := .inl ⟨i, j, rfl, rfl, h⟩
theorem leS {i j : Str} (h : Q (.bl (!decide (j.cps.toList < i.cps.toList))) H) : rLe K (.str i) (.str j) H Q := .inr (.inl ⟨i, j, rfl, rfl, h⟩)
theorem inSg {c : Nat} {z : Str} (h : Q (.bl (decide (c ∈ z.cps.toList))) H) : rInU K (.str ⟨#[c]⟩) (.str z) H Q := .inl ⟨c, z, rfl, rfl, h⟩
theorem allL {a : Addr} {bs : List Bool} (s : SqL K H a (bs.map V.bl)) (h : Q (.bl (bs.all id)) H) : rAll K [.ref a] H Q := ⟨a, bs, rfl, s, h⟩
theorem gtI {i j : Int} (h : Q (.bl (decide (j < i))) H) : rGt (.int i) (.int j) H Q := ⟨i, j, rfl, rfl, h⟩
theorem geI {i j : Int} (h : Q (.bl (decide (j ≤ i))) H) : rGe (.int i) (.int j) H Q := ⟨i, j, rfl, rfl, h⟩
theorem eqI {i j : Int} (h : Q (.bl (decide (i = j))) H) : rEqU K (.int i) (.int j) H Q := .inl ⟨rfl, by
  have e : decide (V.int i = V.int j) = decide (i = j) := decide_eq_decide.mpr ⟨fun z => V.int.inj z, fun z => by rw [z]⟩
  rw [e]; exact h⟩
theorem neI {i j : Int} (h : Q (.bl (!decide (i = j))) H) : rNeU K (.int i) (.int j) H Q := .inl ⟨rfl, by
  have e : decide (V.int i = V.int j) = decide (i = j) := decide_eq_decide.mpr ⟨fun z => V.int.inj z, fun z => by rw [z]⟩
  rw [e]; exact h⟩
theorem eqS {i j : Str} (h : Q (.bl (decide (i = j))) H) : rEqU K (.str i) (.str j) H Q := .inl ⟨rfl, by
  have e : decide (V.str i = V.str j) = decide (i = j) := decide_eq_decide.mpr ⟨fun z => V.str.inj z, fun z => by rw [z]⟩
  rw [e]; exact h⟩
theorem neS {i j : Str} (h : Q (.bl (!decide (i = j))) H) : rNeU K (.str i) (.str j) H Q := .inl ⟨rfl, by
  have e : decide (V.str i = V.str j) = decide (i = j) := decide_eq_decide.mpr ⟨fun z => V.str.inj z, fun z => by rw [z]⟩
  rw [e]; exact h⟩
theorem addI {i j : Int} (h : Q (.int (i + j)) H) : rAddU K (.int i) (.int j) H Q := .inl ⟨i, j, rfl, rfl, h⟩
theorem addS {i j : Str} (z : i.length + j.length ≤ sizeLine) (h : Q (.str (i ++ j)) H) : rAddU K (.str i) (.str j) H Q := .inr (.inl ⟨i, j, rfl, rfl, z, h⟩)
theorem addT {x y : V} (h : rCatA K x y H Q) : rAddU K x y H Q := .inr (.inr (.inl h))
theorem addL {x y : V} (h : rCat x y H Q) : rAddU K x y H Q := .inr (.inr (.inr h))
theorem fm {i j : Int} (h : 0 < j) : 0 ≤ i.fmod j ∧ i.fmod j < j := ⟨Int.fmod_nonneg_of_pos i h, Int.fmod_lt_of_pos i h⟩
theorem mulM {x n j : Int} (h : 0 < n) (h2 : n < 2 ^ 64) (q : Q (.int (x.fmod n * j)) H) : rMulU (.int (x.fmod n)) (.int j) H Q :=
  .inl ⟨_, _, rfl, rfl, .inl ⟨by have := (fm (i := x) h).1; omega, by have := (fm (i := x) h).2; omega⟩, q⟩
theorem mulL {i j : Int} (h : -(2 ^ 64) < i ∧ i < 2 ^ 64) (q : Q (.int (i * j)) H) : rMulU (.int i) (.int j) H Q := .inl ⟨_, _, rfl, rfl, .inl h, q⟩
theorem mulR {i j : Int} (h : -(2 ^ 64) < j ∧ j < 2 ^ 64) (q : Q (.int (i * j)) H) : rMulU (.int i) (.int j) H Q := .inl ⟨_, _, rfl, rfl, .inr h, q⟩
theorem modP {i j : Int} {g : Int → Int → V} (h : j ≠ 0) (q : Q (g i j) H) : rI (fun _ j => j ≠ 0) g (.int i) (.int j) H Q := ⟨i, j, rfl, rfl, h, q⟩
theorem divN {i j : Int} {g : Int → Int → V} (h : j ≠ 0) (h2 : j.natAbs < 1073741824) (q : Q (g i j) H) : rI CDivN g (.int i) (.int j) H Q := ⟨i, j, rfl, rfl, ⟨h, h2⟩, q⟩
theorem powS {i j : Int} {g : Int → Int → V} (h : 0 ≤ j ∧ j ≤ 1000000 ∧ i.natAbs < 2 ^ 64) (q : Q (g i j) H) : rI CPow g (.int i) (.int j) H Q := ⟨i, j, rfl, rfl, h, q⟩
theorem shr {i j : Int} {g : Int → Int → V} (h : 0 ≤ j) (q : Q (g i j) H) : rI (fun _ j => 0 ≤ j) g (.int i) (.int j) H Q := ⟨i, j, rfl, rfl, h, q⟩
theorem shl {i j : Int} {g : Int → Int → V} (h : CShl i j) (q : Q (g i j) H) : rI CShl g (.int i) (.int j) H Q := ⟨i, j, rfl, rfl, h, q⟩
theorem int1 {i : Int} (h : Q (.int i) H) : rInt [.int i] H Q := .inl ⟨i, rfl, h⟩
theorem ixl {p : Addr} {xs : List V} {i : Int} {v : V} (s : SqL K H p xs) (e : atI xs i = some v) (h : Q v H) : rIx K (.ref p) (.int i) H Q := .inl ⟨p, xs, i, v, rfl, rfl, s, e, h⟩
theorem ixt {p : Addr} {xs : List V} {i : Int} {v : V} (s : SqT K H p xs) (e : atI xs i = some v) (h : Q v H) : rIx K (.ref p) (.int i) H Q := .inr (.inl ⟨p, xs, i, v, rfl, rfl, s, e, h⟩)
theorem ixs {z : Str} {i : Int} {c : Nat} (s : z.length ≤ sizeLine) (e : atI z.cps.toList i = some c) (h : Q (.str ⟨#[c]⟩) H) : rIx K (.str z) (.int i) H Q := .inr (.inr ⟨z, i, c, rfl, rfl, s, e, h⟩)
theorem setl {p : Addr} {xs : List V} {k : Int} {j : Nat} {v : V} {R : Hp → Prop} (e : H p = some (.lst xs)) (hj : ixN xs.length k = some j) (h : R (upd H p (.lst (xs.set j v)))) : rSetL (.ref p) (.int k) v H R := ⟨p, xs, k, j, rfl, rfl, e, hj, h⟩
theorem sll {p : Addr} {xs : List V} {lo hi : Option Int} (s : SqL K H p xs) (h : ∀ q, H q = none → Q (.ref q) (upd H q (.lst (cutV xs lo hi)))) : rSlU K (.ref p) lo hi H Q := .inl ⟨p, xs, rfl, s, h⟩
theorem lenL {p : Addr} {xs : List V} (s : SqL K H p xs) (h : Q (.int xs.length) H) : rLenU K [.ref p] H Q := ⟨_, _, rfl, .inl ⟨_, s, rfl⟩, h⟩
theorem lenT {p : Addr} {xs : List V} (s : SqT K H p xs) (h : Q (.int xs.length) H) : rLenU K [.ref p] H Q := ⟨_, _, rfl, .inr ⟨_, s, rfl⟩, h⟩
theorem lenS {z : Str} (s : z.length ≤ sizeLine) (h : Q (.int z.length) H) : rLenU K [.str z] H Q := ⟨_, _, rfl, ⟨s, rfl⟩, h⟩
theorem abs {i : Int} (h : Q (.int (if i < 0 then -i else i)) H) : rAbs [.int i] H Q := ⟨i, rfl, h⟩
theorem max2 {i j : Int} (h : Q (.int (if j > i then j else i)) H) : rMax2 [.int i, .int j] H Q := ⟨i, j, rfl, h⟩
theorem min2 {i j : Int} (h : Q (.int (if j < i then j else i)) H) : rMin2 [.int i, .int j] H Q := ⟨i, j, rfl, h⟩
theorem tupL {p : Addr} {xs : List V} (s : SqL K H p xs) (h : ∀ l, H l = none → Q (.ref l) (upd H l (.tup xs))) : rTupOf K [.ref p] H Q := ⟨p, xs, rfl, .inl ⟨s, h⟩⟩
theorem tupT {p : Addr} {xs : List V} (s : SqT K H p xs) (h : Q (.ref p) H) : rTupOf K [.ref p] H Q := ⟨p, xs, rfl, .inr ⟨s, h⟩⟩
theorem itd {p A B : Prop} [Decidable p] (h1 : p → A) (h2 : ¬ p → B) : if decide p = true then A else B := by
  by_cases h : p
  · rw [decide_eq_true h, if_pos rfl]; exact h1 h
  · rw [decide_eq_false h, if_neg Bool.false_ne_true]; exact h2 h
theorem itn {p A B : Prop} [Decidable p] (h1 : ¬ p → A) (h2 : p → B) : if (!decide p) = true then A else B := by
  by_cases h : p
  · rw [decide_eq_true h]; exact iteF (h2 h)
  · rw [decide_eq_false h]; exact iteT (h1 h)
theorem itb {b : Bool} {A B : Prop} (h1 : b = true → A) (h2 : b = false → B) : if b = true then A else B := by
  cases b with
  | true => exact iteT (h1 rfl)
  | false => exact iteF (h2 rfl)
theorem itnb {b : Bool} {A B : Prop} (h1 : b = false → A) (h2 : b = true → B) : if (!b) = true then A else B := by
  cases b with
  | true => exact iteF (h2 rfl)
  | false => exact iteT (h1 rfl)
theorem iteC {c : Prop} [Decidable c] {A B : Prop} (hc : c) (h : A) : if c then A else B := by rw [if_pos hc]; exact h
theorem iteD {c : Prop} [Decidable c] {A B : Prop} (hc : ¬ c) (h : B) : if c then A else B := by rw [if_neg hc]; exact h
/-- cuts: what follows is named, and met once -/
theorem cutS {t : TS} (P : L2.St → Hp → Prop) (h : ∀ nx : L2.St → Hp → Prop, (∀ σ' H', P σ' H' → nx σ' H') → t ⟨nx, D.rt, D.bk, D.ct⟩ σ H) (hn : ∀ σ' H', P σ' H' → D.nx σ' H') : t D σ H := h D.nx hn
theorem cutQ {t u : TS} (P : L2.St → Hp → Prop) (h : ∀ nx : L2.St → Hp → Prop, (∀ σ' H', P σ' H' → nx σ' H') → t ⟨nx, D.rt, D.bk, D.ct⟩ σ H) (hn : ∀ σ' H', P σ' H' → u D σ' H') : tSeq t u D σ H := h (u D) hn
theorem cutT {t : TT} {R : Bool → Hp → Prop} (P : Bool → Hp → Prop) (h : ∀ R' : Bool → Hp → Prop, (∀ v H', P v H' → R' v H') → t σ H R') (hn : ∀ v H', P v H' → R v H') : t σ H R := h R hn
/-! walks -/
def FORg (J : It) (g : TG) (tb : TS) (D : Ends) (σ : L2.St) (H1 : Hp) : Prop := ∃ W : Nat → Nat → L2.St → Hp → Prop, (∃ m, W 0 m σ H1) ∧ ∀ i m σ H, W i m σ H →
  (J.stop i H ∧ D.nx σ H) ∨ (J.go i H ∧ ∃ N : L2.St → Hp → Prop, (∀ σ' H', N σ' H' → ∃ m', m' < m ∧ W (i + 1) m' σ' H') ∧ ∀ x H', J.yld i H x H' → g x σ H' fun σ2 H2 => tb { D with nx := N, ct := N, bk := D.nx } σ2 H2)
def LCg (J : It) (g : TG) (tt : TT) (te : TE) (vs : List Nat) (σ : L2.St) (Q : VK) (H1 : Hp) (D : Addr) : Prop := ∃ W : Nat → Nat → Hp → Prop, (∃ m, W 0 m (upd H1 D (.lst []))) ∧ ∀ i m H, W i m H →
  (J.stop i H ∧ Q (.ref D) H) ∨ (J.go i H ∧ ∃ Nx : Hp → Prop, (∀ H', Nx H' → ∃ m', m' < m ∧ W (i + 1) m' H') ∧ ∀ x H', J.yld i H x H' → g x (wipe σ vs) H' fun σ2 H2 => wipe σ2 vs = wipe σ vs ∧ tt σ2 H2 fun b H3 =>
    if b = true then te σ2 H3 fun y H4 => ∃ acc, H4 D = some (.lst acc) ∧ acc.length < sizeLine ∧ Nx (upd H4 D (.lst (acc ++ [y]))) else Nx H3)
theorem for_ {wi : TI} {g : TG} {tb : TS} (h : wi σ H fun J H1 => FORg J g tb D σ H1) : tFor wi g tb D σ H := h
theorem lc {wi : TI} {g : TG} {tt : TT} {te : TE} {vs : List Nat} (h : wi σ H fun J H1 => ∀ A, H1 A = none → LCg J g tt te vs σ Q H1 A) : tLc wi g tt te vs σ H Q := h
theorem forIt {J : It} {n : Nat} {G : Hp → Prop} {Y : Nat → Hp → V → Hp → Prop} (w : L2.Walk J n G Y) {g : TG} {tb : TS} (Pv : Nat → L2.St → Hp → Prop) (h0 : Pv 0 σ H) (hG : ∀ i σ H, i ≤ n → Pv i σ H → G H)
    (hs : ∀ i x σ H H', i < n → Pv i σ H → Y i H x H' → g x σ H' fun σ2 H2 => tb { D with nx := Pv (i + 1), ct := Pv (i + 1), bk := D.nx } σ2 H2) (hd : ∀ σ H, Pv n σ H → D.nx σ H) : FORg J g tb D σ H := for_it w Pv h0 hG hs hd
theorem lcIt {J : It} {n : Nat} {G : Hp → Prop} {Y : Nat → Hp → V → Hp → Prop} (w : L2.Walk J n G Y) {g : TG} {tt : TT} {te : TE} {vs : List Nat} {A : Addr} (Pv : Nat → Hp → Prop) (h0 : Pv 0 (upd H A (.lst []))) (hG : ∀ i H, i ≤ n → Pv i H → G H)
    (hs : ∀ i x H1 H', i < n → Pv i H1 → Y i H1 x H' → g x (wipe σ vs) H' fun σ2 H2 => wipe σ2 vs = wipe σ vs ∧ tt σ2 H2 fun b H3 =>
      if b = true then te σ2 H3 fun y H4 => ∃ acc, H4 A = some (.lst acc) ∧ acc.length < sizeLine ∧ Pv (i + 1) (upd H4 A (.lst (acc ++ [y]))) else Pv (i + 1) H3) (hd : ∀ H1, Pv n H1 → Q (.ref A) H1) : LCg J g tt te vs σ Q H A := lc_it w Pv h0 hG hs hd
theorem istr {te : TE} {R : It → Hp → Prop} (h : te σ H fun v H1 => ∃ x, v = .str x ∧ R (Its x) H1) : iStr te σ H R := h
theorem ilist {te : TE} {R : It → Hp → Prop} (h : te σ H fun x H1 => ∃ a, x = .ref a ∧ (∃ xs, SqL K H1 a xs) ∧ R (Itl K a) H1) : iList K te σ H R := h
theorem itup {te : TE} {R : It → Hp → Prop} (h : te σ H fun x H1 => ∃ a, x = .ref a ∧ (∃ xs, SqT K H1 a xs) ∧ R (Itt K a) H1) : iTup K te σ H R := h
theorem irng1 {ta : TA} {R : It → Hp → Prop} (h : ta σ H fun vs H1 => ∃ j : Int, vs = [.int j] ∧ -(2 ^ 62) ≤ j ∧ j < 2 ^ 62 ∧ R (Itr 0 j.toNat) H1) : iRng1 ta σ H R := h
theorem gt {n : Nat} {t : TGs} {p : Addr} {xs : List V} {R : L2.St → Hp → Prop} (s : SqT K H p xs) (e : xs.length = n) (h : t xs σ H R) : gTupU K n t (.ref p) σ H R := .inl ⟨p, xs, rfl, s, e, h⟩
theorem gl {n : Nat} {t : TGs} {p : Addr} {xs : List V} {R : L2.St → Hp → Prop} (s : SqL K H p xs) (e : xs.length = n) (h : t xs σ H R) : gTupU K n t (.ref p) σ H R := .inr ⟨p, xs, rfl, s, e, h⟩
theorem gnil {R : L2.St → Hp → Prop} (h : R σ H) : gNil [] σ H R := ⟨rfl, h⟩
theorem gcons {t : TG} {u : TGs} {v : V} {r : List V} {R : L2.St → Hp → Prop} (h : t v σ H fun σ' H' => u r σ' H' R) : gCons t u (v :: r) σ H R := ⟨v, r, rfl, h⟩
theorem tru {ta : TE} {R : Bool → Hp → Prop} (h : ta σ H fun x H' => ∃ k, TruV K x H' k ∧ R k H') : tTru K ta σ H R := h
theorem truL {p : Addr} {xs : List V} {R : Bool → Prop} (s : SqL K H p xs) (h : R (!xs.isEmpty)) : ∃ k, TruV K (.ref p) H k ∧ R k := ⟨_, .inl ⟨xs, s, rfl⟩, h⟩
theorem u1 {g : Int → V} {i : Int} (h : Q (g i) H) : rU g (.int i) H Q := ⟨i, rfl, h⟩
theorem bm {T : String} {r : V → List V → Hp → VK → Prop} {te : TE} {t : TA} (h : te σ H fun x H1 => tyV K T x H1 ∧ t σ H1 fun vs H2 => r x vs H2 Q) : tBM K T r te t σ H Q := h
theorem tyl {p : Addr} {xs : List V} {P : Prop} (s : H p = some (.lst xs)) (h : P) : tyV K "list" (.ref p) H ∧ P := ⟨.inl ⟨rfl, xs, SqL.of s⟩, h⟩
theorem app {p : Addr} {xs : List V} {y : V} (s : H p = some (.lst xs)) (hl : xs.length < sizeLine) (h : Q .non (upd H p (.lst (xs ++ [y])))) : rAppend (.ref p) [y] H Q := ⟨p, xs, y, rfl, rfl, s, hl, h⟩
theorem wbm {X : Cx} {K : PySem.W.Frag} {T : String} {r : V → List V → Hp → VK → Prop} {e : Expr} {te : TE} {t : TA} (h : PE X e (tBM X.K T r te t)) (hK : X.K = K := by rfl) : PE X e (tBM K T r te t) := by subst hK; exact h
theorem yes {R : Bool → Hp → Prop} (h : R true H) : tYes σ H R := h
theorem es {z : Str} {R : Str → Prop} (h : R z) : ∃ y, V.str z = V.str y ∧ R y := ⟨z, rfl, h⟩
theorem er {p : Addr} {R : Addr → Prop} (h : R p) : ∃ y, V.ref p = V.ref y ∧ R y := ⟨p, rfl, h⟩
theorem wp {σ' : L2.St} {vs : List Nat} {P : Prop} (e : wipe σ' vs = wipe σ vs) (h : P) : wipe σ' vs = wipe σ vs ∧ P := ⟨e, h⟩
theorem same_upd {p : Addr} {o : HO} (h : H p = none) : Same H (upd H p o) := fun b x e => by rw [upd_ne (ne_of_none e h)]; exact e
theorem st {t : TS} {σ' : L2.St} (e : σ = σ') (h : t D σ' H) : t D σ H := by rw [e]; exact h
end
theorem bitsShr {c : Int} {m : Nat} (n : Nat) (h : Builtin.Int.intBits c ≤ m) : Builtin.Int.intBits ((if c < 0 then -c else c) / 2 ^ n) ≤ m := by
  refine PySem.intBits_le_of_natAbs (y := c) ?_ h
  have h1 : (0 : Int) ≤ (if c < 0 then -c else c) := by split <;> omega
  have h2 := Int.ediv_nonneg h1 (two_pow_nn n)
  have h3 := Int.ediv_le_self (2 ^ n) h1
  have h4 : (if c < 0 then -c else c).natAbs = c.natAbs := by split <;> omega
  omega
theorem at_of {xs : List V} {r : Int} (h0 : 0 ≤ r) (h1 : r < xs.length) : ∃ v, v ∈ xs ∧ atI xs r = some v := by
  have hk : r.toNat < xs.length := by omega
  refine ⟨xs[r.toNat], List.getElem_mem hk, ?_⟩
  have q := atI_nat (List.getElem?_eq_getElem hk)
  rw [Int.toNat_of_nonneg h0] at q
  exact q
/-- all but what stands at a is as it was -/
def Keep (a : Addr) (H H' : Hp) : Prop := ∀ b o, b ≠ a → H b = some o → H' b = some o
theorem Keep.upd (a : Addr) (H : Hp) (o : HO) : Keep a H (upd H a o) := fun b u hb e => by rw [upd_ne hb]; exact e
theorem Keep.refl (a : Addr) (H : Hp) : Keep a H H := fun _ _ _ e => e
theorem Keep.trans {a : Addr} {H H1 H2 : Hp} (x : Keep a H H1) (y : Keep a H1 H2) : Keep a H H2 := fun b o hb e => y b o hb (x b o hb e)
theorem Keep.of {a : Addr} {H H' : Hp} (x : Same H H') : Keep a H H' := fun b o _ e => x b o e
/-- the built-ins that the text leaves as they are -/
structure Blt (mg : Str → Option Value) : Prop where
  int : mg "int" = none
  len : mg "len" = none
  range : mg "range" = none
  abs : mg "abs" = none
  max : mg "max" = none
  min : mg "min" = none
  tuple : mg "tuple" = none
  list : mg "list" = none
  str : mg "str" = none
  bool : mg "bool" = none
  sorted : mg "sorted" = none
  repr : mg "repr" = none
  isinstance : mg "isinstance" = none
  enumerate : mg "enumerate" = none
  all : mg "all" = none
/-- a def of the text, as a caller needs it -/
structure Dh (K : PySem.W.Frag) (mg : Str → Option Value) (x : Str) (f : Addr) (fd : FuncData) (ps : List Str) : Prop where
  g : mg x = some (.ref f)
  k : PySem.W.keepIn K (.ref f) = true
  b : Binds K fd ps []
end Wp
set_option Elab.async false
set_option linter.all false
set_option maxRecDepth 100000
namespace Wp
open PySem PySem.Spec PyProof.Rows L2
section
variable {K : PySem.W.Frag} {H H' : Hp}
theorem sameT {a : Addr} {xs : List V} (e : Same H H') (h : SqT K H a xs) : SqT K H' a xs := by
  rcases h with (h | ⟨o, h⟩) | h
  · exact .inl (.inl (e _ _ h))
  · exact .inl (.inr ⟨o, e _ _ h⟩)
  · exact .inr h
mutual
theorem dp_same (s : Same H H') : ∀ (d : PyData) (v : V), Dp K H v d → Dp K H' v d
  | .none, _, h => by cases h; exact .non
  | .bool b, _, h => by cases h; exact .bl b
  | .int i, _, h => by cases h; exact .int i
  | .str x, _, h => by cases h; exact .str x
  | .list ds, _, h => by
    cases h with
    | lst hs ha => exact .lst (s.seq hs) (dps_same s ds _ ha)
  | .tuple ds, _, h => by
    cases h with
    | tup hs ha => exact .tup (sameT s hs) (dps_same s ds _ ha)
  | .dict _, _, h => by cases h
theorem dps_same (s : Same H H') : ∀ (ds : List PyData) (vs : List V), DpAll K H vs ds → DpAll K H' vs ds
  | [], _, h => by cases h; exact .nil
  | d :: ds, _, h => by
    cases h with
    | cons h1 h2 => exact .cons (dp_same s d _ h1) (dps_same s ds _ h2)
end
theorem dps_len : ∀ {vs : List V} {ds : List PyData}, DpAll K H vs ds → vs.length = ds.length
  | _, _, .nil => rfl
  | _, _, .cons _ t => by rw [List.length_cons, List.length_cons, dps_len t]
theorem dps_get : ∀ {vs : List V} {ds : List PyData} {i : Nat} {v : V}, DpAll K H vs ds → vs[i]? = some v → ∃ d, ds[i]? = some d ∧ Dp K H v d
  | _, _, _, _, .nil, e => by simp at e
  | _, _, 0, _, .cons r _, e => by simp at e; subst e; exact ⟨_, rfl, r⟩
  | _, _, i + 1, _, .cons _ t, e => by
    obtain ⟨d, h1, h2⟩ := dps_get (i := i) t (by simpa using e)
    exact ⟨d, by simpa using h1, h2⟩
theorem dps_append : ∀ {vs ws : List V} {ds es : List PyData}, DpAll K H vs ds → DpAll K H ws es → DpAll K H (vs ++ ws) (ds ++ es)
  | _, _, _, _, .nil, h => h
  | _, _, _, _, .cons r t, h => .cons r (dps_append t h)
/-- the name of a thing's type -/
def tyN : PyData → String
  | .none => "NoneType"
  | .bool _ => "bool"
  | .int _ => "int"
  | .str _ => "str"
  | .list _ => "list"
  | .tuple _ => "tuple"
  | .dict _ => "dict"
theorem sql_ty {a : Addr} {xs : List V} (h : SqL K H a xs) : TyX K H (.ref a) (.type "list") := by
  rcases h with (h | ⟨o, h⟩) | ⟨o, its, n, h, c, _⟩
  · exact .base (.lst h)
  · exact .base (.frz h)
  · exact .kList h c
theorem sqt_ty {a : Addr} {xs : List V} (h : SqT K H a xs) : TyX K H (.ref a) (.type "tuple") := by
  rcases h with (h | ⟨o, h⟩) | ⟨o, its, n, h, c, _⟩
  · exact .base (.tup h)
  · exact .fTuple h
  · exact .kTuple h c
theorem dp_ty {v : V} {d : PyData} (h : Dp K H v d) : TyX K H v (.type (tyN d)) := by
  cases h with
  | non => exact .base .non
  | bl b => exact .base (.bl b)
  | int i => exact .base (.int i)
  | str x => exact .base (.str x)
  | lst hs _ => exact sql_ty hs
  | tup hs _ => exact sqt_ty hs
/-- isinstance(x, T) of plain data -/
theorem isi1 {v : V} {d : PyData} {n : String} {b : Bool} {Q : VK} (h : Dp K H v d) (e : kitB (tyN d) n = some b) (q : Q (.bl b) H) : rIsU K [v, .ty n] H Q :=
  .inl ⟨v, .ty n, _, _, b, rfl, .ty n, dp_ty h, kit_ty e, q⟩
theorem isi2 {v : V} {d : PyData} {n m : String} {b c : Bool} {p : Addr} {Q : VK} (h : Dp K H v d) (hp : H p = some (.tup [.ty n, .ty m])) (e : kitB (tyN d) n = some b) (e2 : kitB (tyN d) m = some c) (q : Q (.bl (b || c)) H) : rIsU K [v, .ref p] H Q := by
  refine .inr ⟨v, p, _, _, _, b || c, rfl, hp, .cons (.ty n) (.cons (.ty m) .nil), dp_ty h, ?_, q⟩
  refine kitAny_cons (kit_ty e) (fun hb => kitAny_cons (kit_ty e2) (fun hc => ?_) (fun hc => ?_)) (fun hb => by rw [hb]; rfl)
  · rw [hb, hc]; exact kitAny_nil
  · rw [hb, hc]; rfl
end
theorem kq {d : PyData} {n : String} {b : Bool} (s : String) (hs : tyN d = s) (h : kitB s n = some b) : kitB (tyN d) n = some b := by rw [hs]; exact h
/-! what the forms of things say, over plain data -/
def isWhole : PyData → Bool
  | .int _ => true
  | _ => false
def row : PyData → Option (List PyData)
  | .list xs => some xs
  | .tuple xs => some xs
  | _ => none
def between (lo hi : Int) : PyData → Bool
  | .int i => decide (lo ≤ i) && decide (i ≤ hi)
  | _ => false
def isText (signs : Str) (most : Int) : PyData → Bool
  | .str z => decide ((z.length : Int) ≤ most) && z.cps.toList.all fun c => decide (c ∈ signs.cps.toList)
  | _ => false
mutual
/-- texts in it are not long -/
def sm : PyData → Bool
  | .str z => decide (z.length ≤ 1000)
  | .list xs => smA xs
  | .tuple xs => smA xs
  | _ => true
def smA : List PyData → Bool
  | [] => true
  | x :: xs => sm x && smA xs
end
theorem sm_str {d : PyData} (h : sm d = true) : ∀ z, d = .str z → z.length ≤ 16777216 := fun z e => by
  subst e
  have := of_decide_eq_true (show decide (z.length ≤ 1000) = true from by simpa [sm] using h)
  omega
theorem smA_get : ∀ {xs : List PyData} {i : Nat} {d : PyData}, smA xs = true → xs[i]? = some d → sm d = true
  | [], _, _, _, e => by simp at e
  | x :: xs, 0, d, h, e => by
    simp at e; subst e
    simp only [smA, Bool.and_eq_true] at h
    exact h.1
  | x :: xs, i + 1, d, h, e => by
    simp only [smA, Bool.and_eq_true] at h
    exact smA_get (i := i) h.2 (by simpa using e)
theorem sm_row {d : PyData} {xs : List PyData} (h : sm d = true) (e : row d = some xs) : smA xs = true := by
  cases d with
  | list ys => cases e; simpa [sm] using h
  | tuple ys => cases e; simpa [sm] using h
  | _ => cases e
/-- a row stands as a list or as a tuple -/
theorem dp_row {K : PySem.W.Frag} {H : Hp} {v : V} {d : PyData} {xs : List PyData} (h : Dp K H v d) (e : row d = some xs) : ∃ p vs, v = .ref p ∧ (SqL K H p vs ∨ SqT K H p vs) ∧ DpAll K H vs xs := by
  cases h with
  | lst hs ha => cases e; exact ⟨_, _, rfl, .inl hs, ha⟩
  | tup hs ha => cases e; exact ⟨_, _, rfl, .inr hs, ha⟩
  | _ => cases e
theorem lenU {K : PySem.W.Frag} {H : Hp} {p : Addr} {vs : List V} {Q : VK} (h : SqL K H p vs ∨ SqT K H p vs) (q : Q (.int vs.length) H) : rLenU K [.ref p] H Q := h.elim (fun h => lenL h q) (fun h => lenT h q)
theorem gU {K : PySem.W.Frag} {σ : L2.St} {H : Hp} {n : Nat} {t : TGs} {p : Addr} {xs : List V} {R : L2.St → Hp → Prop} (s : SqL K H p xs ∨ SqT K H p xs) (e : xs.length = n) (h : t xs σ H R) : gTupU K n t (.ref p) σ H R := s.elim (fun s => gl s e h) (fun s => gt s e h)
theorem sqU_same {K : PySem.W.Frag} {H H' : Hp} {p : Addr} {xs : List V} (e : Same H H') (s : SqL K H p xs ∨ SqT K H p xs) : SqL K H' p xs ∨ SqT K H' p xs := s.elim (fun s => .inl (e.seq s)) (fun s => .inr (sameT e s))
mutual
/-- no list in it -/
def noL : PyData → Bool
  | .list _ => false
  | .tuple xs => noLA xs
  | _ => true
def noLA : List PyData → Bool
  | [] => true
  | x :: xs => noL x && noLA xs
end
section
variable {K : PySem.W.Frag} {H H' : Hp} {a : Addr} {us : List V} {o : HO}
theorem sqt_keep {b : Addr} {xs : List V} (h : H a = some (.lst us)) (k : Keep a H H') (s : SqT K H b xs) : SqT K H' b xs := by
  rcases s with (s | ⟨u, s⟩) | s
  · exact .inl (.inl (k _ _ (ne_of s h (by intro z; cases z)) s))
  · exact .inl (.inr ⟨u, k _ _ (ne_of s h (by intro z; cases z)) s⟩)
  · exact .inr s
mutual
theorem dp_keep (h : H a = some (.lst us)) (k : Keep a H H') : ∀ (d : PyData) (v : V), noL d = true → Dp K H v d → Dp K H' v d
  | .none, _, _, q => by cases q; exact .non
  | .bool b, _, _, q => by cases q; exact .bl b
  | .int i, _, _, q => by cases q; exact .int i
  | .str x, _, _, q => by cases q; exact .str x
  | .list ds, _, n, q => by simp [noL] at n
  | .tuple ds, _, n, q => by
    cases q with
    | tup hs ha => exact .tup (sqt_keep h k hs) (dps_keep h k ds _ (by simpa [noL] using n) ha)
  | .dict _, _, _, q => by cases q
theorem dps_keep (h : H a = some (.lst us)) (k : Keep a H H') : ∀ (ds : List PyData) (vs : List V), noLA ds = true → DpAll K H vs ds → DpAll K H' vs ds
  | [], _, _, q => by cases q; exact .nil
  | d :: ds, _, n, q => by
    simp only [noLA, Bool.and_eq_true] at n
    cases q with
    | cons h1 h2 => exact .cons (dp_keep h k d _ n.1 h1) (dps_keep h k ds _ n.2 h2)
end
theorem dp_upd (h : H a = some (.lst us)) (d : PyData) (v : V) (n : noL d = true) (q : Dp K H v d) : Dp K (upd H a o) v d := dp_keep h (Keep.upd a H o) d v n q
theorem dps_upd (h : H a = some (.lst us)) (ds : List PyData) (vs : List V) (n : noLA ds = true) (q : DpAll K H vs ds) : DpAll K (upd H a o) vs ds := dps_keep h (Keep.upd a H o) ds vs n q
end
/-- a triple of a state, a sign or nothing, a state -/
abbrev tri (p : Int) (x : Str) (q : Int) : PyData := .tuple [.int p, .str x, .int q]
end Wp
set_option Elab.async false
set_option linter.all false
set_option maxRecDepth 100000
namespace Wp
open PySem PySem.Spec PyProof.Rows L2
/-- an own error class with one field, as its raiser needs it -/
structure ExT (K : PySem.W.Frag) (mg : Str → Option Value) (x : Str) (C fI : Addr) (fld : Str) : Prop where
  O : OexC K C
  g : mg x = some (.ref C)
  iC : PySem.W.findIn K (.ref C) "__init__" = some (some (.ref fI))
  tI : PySem.W.typeIn K (.ref fI) = some (.type "function")
  no : PySem.W.findIn K (.ref C) fld = some none
def spInit (K : PySem.W.Frag) (fld : Str) : Sp := fun vs H Q _ => ∃ (a C : Addr) (y : V), vs = [.ref a, y] ∧ OexC K C ∧ PySem.W.findIn K (.ref C) fld = some none ∧ H a = some (exo a C none) ∧
  ∀ dx, H dx = none → dx ≠ a → Q .non (upd (upd H dx (exd dx [(fld, y)])) a (exo a C (some dx)))
def MkI (C : Addr) (sp : Sp) (dvs : List V) (Q : XK) (vs : List V) (H1 : Hp) : Prop := vs.length ≤ 1000 ∧ ∀ a, H1 a = none → sp (.ref a :: (vs ++ dvs)) (upd H1 a (exo a C none))
  (fun v H2 => v = .non ∧ ∃ (d : Addr) (fs : List (Str × V)), H2 a = some (exo a C (some d)) ∧ H2 d = some (exd d fs) ∧ H1 d = none ∧ Q (.ref C) (some d) (upd (del H2 a) d (.xd fs))) (fun _ _ _ => False)
theorem mko {C : Addr} {sp : Sp} {dvs : List V} {ta : TA} {σ : L2.St} {H : Hp} {Q : XK} (h : ta σ H fun vs H1 => MkI C sp dvs Q vs H1) : tMkO C sp dvs ta σ H Q := h
theorem mki {K : PySem.W.Frag} {mg : Str → Option Value} {x : Str} {C fI : Addr} {fld : Str} {Q : XK} {y : V} {H1 : Hp} (T : ExT K mg x C fI fld)
    (h : ∀ d H', H1 d = none → Same H1 H' → H' d = some (.xd [(fld, y)]) → Q (.ref C) (some d) H') : MkI C (spInit K fld) [] Q [y] H1 := by
  refine ⟨(by decide : 1 ≤ 1000), fun a ha => ⟨a, C, y, rfl, T.O, T.no, upd_same, fun dx hdx hne => ⟨rfl, dx, [(fld, y)], upd_same, ?_, ?_, ?_⟩⟩⟩
  · rw [upd_ne hne, upd_same]
  · rw [upd_ne hne] at hdx
    exact hdx
  · refine h dx _ (by rw [upd_ne hne] at hdx; exact hdx) (fun b o e => ?_) upd_same
    have hba : b ≠ a := ne_of_none e ha
    have hbd : b ≠ dx := ne_of_none (show (upd H1 a (exo a C none)) b = some o by rw [upd_ne hba]; exact e) hdx
    rw [upd_ne hbd, del_ne hba, upd_ne hba, upd_ne hbd, upd_ne hba]
    exact e
end Wp
set_option Elab.async false
set_option linter.all false
set_option maxRecDepth 100000
set_option maxHeartbeats 1000000
/-! enumerate over a tuple: its making, its turns, its walk -/
namespace Wp
open PySem PySem.Spec PyProof.Rows L2
/-- what stands behind enumerate(v): the iterator over v, then the enumerate object -/
abbrev enHeap (h : Heap) (o : Obj) : Heap := (h.push o).push { cls := .type "enumerate", data := .fields #[.none, .bool false, .ref h.objs.size, rawInt 0, .none, .none] }
theorem en_new {v : Value} {o : Obj} {G : Heap → Prop} (B : Begins v o G) :
    Meets (Builtin.«enumerate.__new__» ⟨[.type "enumerate", v], []⟩) (fun _ R s => G s.heap ∧ R (.ok (.ret (.ref (s.heap.push o).objs.size))) { s with heap := enHeap s.heap o }) := by
  refine .of_wp fun prog w A R s h => ?_
  obtain ⟨hp, g, d, tk, os⟩ := s; obtain ⟨hg, h⟩ := h; have hsub := sub_enumerate
  have qi : ∀ {A' : Around} {E : Value → Shared → Prop} {Q : Value → Shared → Prop}, Q (.ref hp.objs.size) ⟨hp.push o, g, d, tk, os⟩ → wpAny (model prog w) A' (pyIter v) Q E ⟨hp, g, d, tk, os⟩ := fun {A' E Q} q => B.iter prog w A' E ⟨hp, g, d, tk, os⟩ Q hg q
  wp_walk using qi; refine wpAny_stack_any fun st => wpAny_pure ?_
  split
  · rename_i c _ _ _ _ _
    cases (c == Value.type "enumerate") <;> (wp_walk using qi; exact ⟨_, rfl, h⟩)
  · wp_walk using qi; exact ⟨_, rfl, h⟩
section
variable {prog : Program} {w : World} {A : Around} {E : Value → Shared → Prop} {s : Shared}
theorem en_call {v : Value} {o : Obj} {G : Heap → Prop} {Q : Value → Shared → Prop} (B : Begins v o G) (hg : G s.heap)
    (h : ∀ h', IsEnum h' (s.heap.objs.size + 1) s.heap.objs.size 0 .none → h'.get? s.heap.objs.size = some o → (∀ b u, s.heap.get? b = some u → h'.get? b = some u) → Q (.ref (s.heap.objs.size + 1)) { s with heap := h' }) :
    wpAny (model prog w) A (PySem.call (.type "enumerate") [v]) Q E s := by
  have hz : (s.heap.push o).objs.size = s.heap.objs.size + 1 := Heap.size_push ..
  have he : IsEnum (enHeap s.heap o) (s.heap.objs.size + 1) s.heap.objs.size 0 .none := by
    have q := Heap.get?_push_size (s.heap.push o) (o := { cls := .type "enumerate", data := .fields #[.none, .bool false, .ref s.heap.objs.size, rawInt 0, .none, .none] }) rfl
    rw [hz] at q; exact q
  refine callType_new F.called_enumerate (by decide) (F.typeCall_enumerate_1 v) (F.newCall_enumerate_1 v) (fun obj => F.args_object_init_2 obj v) F.entry_enumerate_new (en_new B) ⟨hg, ?_⟩
  rw [hz]
  exact ⟨⟨_, he, rfl⟩, h _ he (Heap.get?_push_of_some _ (Heap.get?_push_size _ B.free)) fun b u x => Heap.get?_push_of_some _ (Heap.get?_push_of_some _ x)⟩
end
def IteT (K : PySem.W.Frag) (a : Addr) : It :=
  ⟨fun i H => ∃ (xs : List V) (x : V), SqT K H a xs ∧ xs[i]? = some x,
   fun i H v H' => ∃ T x, v = .ref T ∧ H T = none ∧ H' = upd H T (.tup [.int (i : Nat), x]) ∧ ∀ xs, SqT K H a xs → xs[i]? = some x,
   fun i H => ∃ xs : List V, SqT K H a xs ∧ xs.length ≤ i⟩
theorem turn_enT {P : Program} {w : World} {K : PySem.W.Frag} {elts : List Expr} {kk : Nat} {tpos : Pos} (a e it : Addr) :
    Turn P w K (.Tuple elts kk tpos) (IteT K a) [e, it] e (fun i h => (∃ old, IsEnum h e it ((i : Nat) : Int) old) ∧ h.IsTupleIter it a i ∧ e ≠ it) where
  mem := List.mem_cons_self
  obj := fun i h st b hb => by
    obtain ⟨⟨old, he⟩, ⟨o, ho, _, hd⟩, _⟩ := st
    rcases List.mem_cons.mp hb with z | z
    · rw [z]; exact ⟨_, he, fun v q => nomatch q⟩
    · rw [List.mem_singleton.mp z]; exact ⟨o, ho, fun v q => by rw [hd] at q; cases q⟩
  keep := fun i h h' st k => ⟨⟨_, k e (by simp) _ st.1.choose_spec⟩, st.2.1.at fun o q => k it (by simp) o q, st.2.2⟩
  item := by
    rintro X rfl rfl rfl hc i pins s σ H E I hf ⟨⟨old, he⟩, hit, hne⟩ ⟨xs, x, hq, hx⟩
    obtain ⟨its, rv, p, hz⟩ := I.tuple hq
    obtain ⟨u, hu, ru⟩ := rv.get hx
    have hel : e < s.heap.objs.size := Heap.lt_size he
    have hil : it < s.heap.objs.size := hit.elim fun o q => Heap.lt_size q.1
    have hae : a ≠ e := fun z => by obtain ⟨o, ho, hcl, _⟩ := p; rw [z, he] at ho; cases ho; exact absurd (Value.type.inj hcl) (by decide)
    have hai : a ≠ it := fun z => by
      obtain ⟨o, ho, hcl, _⟩ := p; obtain ⟨o2, ho2, hcl2, _⟩ := hit
      rw [z, ho2] at ho; cases ho; rw [hcl] at hcl2; exact absurd (Value.type.inj hcl2) (by decide)
    have Dr : Draws X.prog X.w X.A.in1 it [it, a] its.toArray.size (fun i v => its.toArray[i]? = some v) (fun i h => h.IsTupleIter it a i ∧ h.IsTuple a its.toArray) := Draws.tuple (A := X.A.in1) (show X.A.in1.handled = none from I.ok.hd hc) it a hai its.toArray
    have hlt : i < its.toArray.size := by
      have := (List.getElem?_eq_some_iff.mp hu).1
      rw [List.size_toArray]; exact this
    refine wpAny_pyNext_enum_itemD Dr he ⟨hit, p⟩ hlt hne (by simp [hne, Ne.symm hae]) fun x' h' tk hp ho hst hT hsz hk => ?_
    have hxx : x' = u := Option.some.inj (hp.symm.trans (by simpa using hu))
    subst hxx
    refine ⟨_, rfl, wpAny_letOwnedTupleGo_enum (s := { s with heap := h', toks := tk + 1 }) ho fun h'' he' sb => ?_⟩
    have hT2 : h''.get? s.heap.objs.size = some { cls := .type "tuple", data := .seq #[.int i tk, x'] } := (sb.2 _ (Nat.ne_of_gt hel)).trans hT
    have new : ObjOk X.prog X.w (upd H s.heap.objs.size (.tup [.int (i : Nat), x])) h'' s.heap.objs.size (.tup [.int (i : Nat), x]) := ⟨(by decide : 2 ≤ sizeLine), [.int i tk, x'], .cons ⟨_, rfl⟩ (.cons ru .nil), ⟨_, hT2, rfl, _, rfl⟩⟩
    have I1 : Inv X pins σ (upd H s.heap.objs.size (.tup [.int (i : Nat), x])) { s with heap := h'', toks := tk + 1 } := by
      refine I.turnedNew (ch := [e, it]) (fun b ob hb q => ?_) hf (Nat.le_refl _) new
      have h1 : b ≠ e := fun z => hb (by simp [z])
      have h2 : b ≠ it := fun z => hb (by simp [z])
      exact (sb.2 b h1).trans (hk b ob h1 h2 q)
    refine ⟨.ref s.heap.objs.size, _, I1, rfl, ⟨_, x, rfl, I.hok.fresh (Nat.le_refl _), rfl, fun ys hy => by rw [I.tuple_inj hy hq]; exact hx⟩, ⟨⟨x', ?_⟩, hst.1.at fun o q => (sb.2 it (Ne.symm hne)).trans q, hne⟩, fun b hb => ?_⟩
    · rw [show ((i + 1 : Nat) : Int) = (i : Int) + 1 by omega]; exact he'
    · have hb' : b < s.heap.objs.size := by
        rcases List.mem_cons.mp hb with z | z
        · rw [z]; exact hel
        · rw [List.mem_singleton.mp z]; exact hil
      rw [upd_ne (Nat.ne_of_lt hb')]; exact (hf b hb).1
  done := by
    rintro X rfl rfl rfl hc i pins s σ H E I hf ⟨⟨old, he⟩, hit, hne⟩ ⟨xs, hq, hx⟩
    obtain ⟨its, rv, p, hz⟩ := I.tuple hq
    obtain ⟨f0, f1, f2, f3, f4, f5⟩ := hf it (by simp)
    have hl := rv.length
    have hT : s.TypeIs (.ref e) "enumerate" := ⟨_, he, rfl⟩
    unfold pyNext
    refine wpAny_bind (wpAny_attempt (wpAny_callSpecial?_slot (name := Str.ofString "__next__") hT F.slot_enumerate_next (wpAny_call_entry F.slot_enumerate_next hT F.entry_enumerate_next ?_ (F.args_enumerate_next_1 _))))
    refine (show wpAny _ _ (field (.ref e) 2 >>= _) _ _ _ from wpAny_bind (wpAny_field he rfl (x := .ref it) rfl ?_))
    refine wpAny_bind (wpAny_nextOf_tuple_end (I.ok.hd hc) hit (show s.heap.IsTuple a its.toArray from p) (by simp; omega) fun h' x' eb hx' => ?_)
    obtain ⟨o, ho, hcl⟩ := hx'
    exact wpAny_bind (wpAny_isInstance (T := "StopIteration") (b := true) ⟨o, ho, hcl⟩ isSubtype_stop (wpAny_pure ⟨rfl, I.turned (t' := s.toks) (fun b o hb q => eb b o hb q) f0 f1 f3 f4 f5⟩))
  self := fun A i s Q E st h => wpAny_pyIter_enum st.1.choose_spec h
def iEnumU (K : PySem.W.Frag) (ta : TA) : TI := fun σ H R => ta σ H fun vs H1 => ∃ a xs, vs = [.ref a] ∧ ((SqL K H1 a xs ∧ R (Ite K a) H1) ∨ (SqT K H1 a xs ∧ R (IteT K a) H1))
theorem wi_enum {X : Cx} {e : Expr} {ta : TA} {p pos tpos : Pos} {elts : List Expr} {kk : Nat} {K : PySem.W.Frag} (hg : Gl X "enumerate") (hm : X.mg "enumerate" = none) (ha : PA X [e] ta) (hs : starEach [e] X.env = [(false, eval e X.env)] := by rfl) (hK : X.K = K := by rfl) :
    PI X (.Tuple elts kk tpos) (.Call (.Name "enumerate" p) [e] [] pos) (iEnumU K ta) := by
  subst hK
  refine ⟨fun pins s σ H R I h => ?_⟩
  refine Call_ (ld_blt I hg hm boot_enumerate (PyProof.Rows.callWith_type1 (thn (ha.run pos pins s σ H _ I h) fun us s1 ⟨vs, H1, I1, r1, a, xs, ex, q⟩ => ?_) hs rfl))
  subst ex
  cases r1 with
  | cons r rr =>
    cases rr; cases r
    have new : ∀ {h' : Heap}, (∀ b o, s1.heap.get? b = some o → h'.get? b = some o) → ∀ b ∈ [s1.heap.objs.size + 1, s1.heap.objs.size], FpOk X pins H1 b := fun {h'} _ b hb => by
      have hle : s1.heap.objs.size ≤ b := by
        rcases List.mem_cons.mp hb with z | z
        · omega
        · have := List.mem_singleton.mp z; omega
      exact I1.fpOk hle (I1.hok.fresh hle)
    rcases q with ⟨hq, q⟩ | ⟨hq, q⟩
    · obtain ⟨its, rv, p', hz⟩ := I1.list hq
      refine call_enumerate_list p'.isList fun h' he hit hsz hk => wpAny_pyIter_enum he ?_
      exact ⟨s1.heap.objs.size + 1, [s1.heap.objs.size + 1, s1.heap.objs.size], _, _, H1, rfl, I1.kept (t' := s1.toks) hk, turn_enum a (s1.heap.objs.size + 1) s1.heap.objs.size, ⟨⟨.none, he⟩, hit, Nat.succ_ne_self _⟩, new hk, q⟩
    · obtain ⟨its, rv, p', hz⟩ := I1.tuple hq
      refine en_call (begins_tuple a its.toArray) p' fun h' he ho hk => wpAny_pyIter_enum he ?_
      exact ⟨s1.heap.objs.size + 1, [s1.heap.objs.size + 1, s1.heap.objs.size], _, _, H1, rfl, I1.kept (t' := s1.toks) hk, turn_enT a (s1.heap.objs.size + 1) s1.heap.objs.size, ⟨⟨.none, he⟩, ⟨_, ho, rfl, rfl⟩, Nat.succ_ne_self _⟩, new hk, q⟩
theorem walk_enT {K : PySem.W.Frag} {a : Addr} {xs : List V} : L2.Walk (IteT K a) xs.length (fun H => SqT K H a xs) (YPair (fun i => some (.int (i : Nat))) (fun i => xs[i]?)) :=
  ⟨fun i _ hi q => ⟨xs, xs[i], q, by simp [hi]⟩, fun _ q => ⟨xs, q, Nat.le_refl _⟩, fun i H v H' _ q ⟨T, x, h1, h2, h3, h4⟩ => ⟨T, .int (i : Nat), x, h1, h2, h3, rfl, h4 xs q⟩⟩
/-- the loop over enumerate of a row, list or tuple -/
theorem enumU {K : PySem.W.Frag} {p : Addr} {xs : List V} {σ : L2.St} {H0 H : Hp} {D : Ends} {g : TG} {tb : TS} (s : SqL K H0 p xs ∨ SqT K H0 p xs) (sm : Same H0 H) (Pv : Nat → L2.St → Hp → Prop) (h0 : Pv 0 σ H) (hG : ∀ i σ1 H1, Pv i σ1 H1 → Same H0 H1)
    (hs : ∀ i x σ1 H1 T, xs[i]? = some x → Pv i σ1 H1 → H1 T = none → g (.ref T) σ1 (upd H1 T (.tup [.int (i : Nat), x])) fun σ2 H2 => tb { D with nx := Pv (i + 1), ct := Pv (i + 1), bk := D.nx } σ2 H2)
    (hd : ∀ σ1 H1, Pv xs.length σ1 H1 → D.nx σ1 H1) : (SqL K H p xs ∧ FORg (Ite K p) g tb D σ H) ∨ (SqT K H p xs ∧ FORg (IteT K p) g tb D σ H) := by
  have step : ∀ i v σ1 H1 H', i < xs.length → Pv i σ1 H1 → YPair (fun i => some (.int (i : Nat))) (fun i => xs[i]?) i H1 v H' → g v σ1 H' fun σ2 H2 => tb { D with nx := Pv (i + 1), ct := Pv (i + 1), bk := D.nx } σ2 H2 := by
    rintro i v σ1 H1 H' hi hp ⟨T, x, y, rfl, hT, rfl, hx, hy⟩
    cases hx
    exact hs i y σ1 H1 T hy hp hT
  rcases s with s | s
  · exact .inl ⟨sm.seq s, forIt walk_enum Pv h0 (fun i σ1 H1 _ hp => (hG i σ1 H1 hp).seq s) step hd⟩
  · exact .inr ⟨sameT sm s, forIt walk_enT Pv h0 (fun i σ1 H1 _ hp => sameT (hG i σ1 H1 hp) s) step hd⟩
theorem ienum {K : PySem.W.Frag} {ta : TA} {σ : L2.St} {H : Hp} {R : It → Hp → Prop} (h : ta σ H fun vs H1 => ∃ a xs, vs = [.ref a] ∧ ((SqL K H1 a xs ∧ R (Ite K a) H1) ∨ (SqT K H1 a xs ∧ R (IteT K a) H1))) : iEnumU K ta σ H R := h
end Wp
set_option Elab.async false
set_option linter.all false
set_option maxRecDepth 100000
/-! the law's own def at the place where it is called: there nothing is being shown (guards), so repr of data may be asked -/
namespace Wp
open PySem PySem.Spec PyProof.Rows L2
structure FnTop (P : Program) (w : World) (K : PySem.W.Frag) (mg : Str → Option Value) (base : Heap) (CX : CXT) (f : Addr) (fd : FuncData) (ps : List Str) (sp : Sp) : Prop where
  run : ∀ (s : Shared) (H : Hp) (us : List Value) (vs : List V) (Q : VK) (E : XK), Env0 P w K mg base callerA [] s H → BindsTo s fd ⟨us, []⟩ (ps.zip us) → Vals vs us → sp vs H Q E →
    codeAny (model P w) callerA (.call (.ref f) ⟨us, []⟩) (CR CX [] P w H s Q E) s
theorem top_of {P : Program} {w : World} {K : PySem.W.Frag} {mg : Str → Option Value} {base : Heap} {CX : CXT} {x qual : Str} {st : Stmt} {f : Addr} {fd : FuncData} {N ps : List Str} {k : Nat} {sp : Sp} (F : Fun K x qual st f fd) (S : FnScope N ps (defScope st))
    (len : ∀ vs H Q E, sp vs H Q E → vs.length = ps.length) (hroom : Room (k + 1) callerA)
    (hbody : ∀ (cdv : Value) (s : Shared) (H : Hp) (vs : List V) (Q : VK) (E : XK), Room k (callerA.deeper (envOfC qual (defScope st) s.heap.objs.size f cdv)) → sp vs H Q E →
      ∃ t, PSs (cxOf CX P w K mg base N qual (defScope st) f cdv callerA [] s H E) (defBody st) t ∧ t { nx := fun _ H' => Q .non H', rt := Q } (start N vs) H) : FnTop P w K mg base CX f fd ps sp := by
  obtain ⟨oc, od, kV, doc, pm, an, cdv, ct, osl, rfl, lk, hcd⟩ := F.ex
  refine ⟨fun s H us vs Q E e0 hb r hsp => ?_⟩
  have inHeap : K.In s.heap := e0.mod.kin.keeps fun b o e => (e0.bs b o e).1
  have nolim : s.heap.NoLimit := e0.mod.nolimit.keeps fun b o e => (e0.bs b o e).1
  have kinds : ∀ y ∈ ps.zip us, (defScope st).names.lookup y.1 = some .local ∨ ((defScope st).names.lookup y.1 = some .cell ∧ ((cellsFrom (s.heap.objs.size + 1) (defScope st).names []).lookup y.1).isSome = true) := fun ⟨n, v⟩ hy => (S.par n (List.of_mem_zip hy).1).imp id fun q => ⟨q, PySem.W.cellsFrom_some _ _ _ (.inl q)⟩
  refine codeAny_call_function hroom.depth (inHeap _ _ lk) rfl S.co S.gen rfl (PySem.W.codeRec_of inHeap hcd) (hb _ _ _ _ (wpAny_newFunctionEnv_cells S.kind kinds fun env he s1 q => ?_))
  subst he
  refine ⟨nolim.keeps q.toInCall.keep, codeAny_func ?_⟩
  obtain ⟨t, ht, hq⟩ := hbody cdv s H vs Q E (hroom.deeper _) hsp
  have I0 := inv_start (CX := CX) (E := E) S hroom.hd e0 (len _ _ _ _ hsp) r q
  refine wpAny_mono (ht.run [] s1 (start N vs) H _ I0 hq) (fun fl s' hs => ?_) fun e s' hs => hs
  cases fl with
  | ret u => obtain ⟨v, σ', H', J, rv, z⟩ := hs; exact ⟨v, H', J.os, J.bare, J.base, J.hok, rv, z⟩
  | next => obtain ⟨σ', H', J, z⟩ := hs; exact ⟨V.non, H', J.os, J.bare, J.base, J.hok, rfl, z⟩
  | brk => obtain ⟨_, _, _, z⟩ := hs; exact z.elim
  | cont => obtain ⟨_, _, _, z⟩ := hs; exact z.elim
theorem call_top {P : Program} {w : World} {K : PySem.W.Frag} {mg mb : Str → Option Value} {CX : CXT} {fa a : Addr} {fd : FuncData} {x : Str} {sp : Sp} {s : Shared} {vs : List Value} {ns : List Int} (KX : K.In s.heap) (hns : s.heap.Ns mainGlobals mg) (hb : s.heap.Ns builtinsNs mb)
    (hbb : ∀ x : Str, x ≠ "__name__" → mb x = bootBuiltins x) (hlim : s.heap.NoLimit) (hg : s.gens = #[]) (ha : s.heap.get? a = some { cls := .type "list", data := .seq vs.toArray }) (hi : IntsAre vs ns) (hl : ns.length ≤ sizeLine)
    (F : ∀ base : Heap, K.In base → base.Ns mainGlobals mg → FnTop P w K mg base CX fa fd [x] sp) (hbind : ∀ (s : Shared) (u : Value), BindsTo s fd ⟨[u], []⟩ [(x, u)])
    (hsp : ∀ H : Hp, Only H → SqL K H a (ns.map V.int) → sp [.ref a] H (fun v _ => v = .bl true) fun _ _ _ => False) (hCX : ∀ H e s', CX [] H s (fun _ _ _ => False) e s' → False) :
    codeAny (model P w) callerA (.call (.ref fa) ⟨[.ref a], []⟩) (fun r s' => r = .ok (.ret (.bool true)) ∧ OldK s.heap s'.heap ∧ s'.os = s.os ∧ AllBare s'.gens) s := by
  have rv := vals_ints hi; have lenV := hi.length
  have core : ∀ H : Hp, Only H → SqL K H a (ns.map V.int) → HOk P w H s.heap → (∀ b, H b ≠ none → b = a) → (H a ≠ none → K.lookup a = none) →
      codeAny (model P w) callerA (.call (.ref fa) ⟨[.ref a], []⟩) (fun r s' => r = .ok (.ret (.bool true)) ∧ OldK s.heap s'.heap ∧ s'.os = s.os ∧ AllBare s'.gens) s := by
    intro H hO hS hok hA hK
    have free : ∀ {b : Addr}, b ≠ a → H b = none := fun {b} hb => by
      cases q : H b with
      | none => rfl
      | some u => exact absurd (hA b (by rw [q]; simp)) hb
    have nsK : ∀ {b : Addr} {m : Str → Option Value}, s.heap.Ns b m → (hidT s.heap H).Ns b m := fun {b m} ⟨o, es, ep, e, d, z⟩ => ⟨o, es, ep, hidT_get e (free fun hba => by rw [hba, ha] at e; cases e; have d' : Data.seq vs.toArray _ = Data.dict es ep := d; cases d'), d, z⟩
    have hKb : K.In (hidT s.heap H) := fun b o e => hidT_get (KX b o e) (by
      cases q : H b with
      | none => rfl
      | some u => have hba := hA b (by rw [q]; simp); subst hba; rw [hK (by rw [q]; simp)] at e; cases e)
    have hM : Mod K mg (hidT s.heap H) := ⟨hKb, nsK hns, ⟨mb, nsK hb, hbb⟩, hlim.elim fun mc z => ⟨mc, nsK z.1, z.2⟩⟩
    have e0 : Env0 P w K mg (hidT s.heap H) callerA [] s H := { frames := rfl, mod := hM, bs := fun b o e => of_hidT e, bsz := Nat.le_of_eq (hidT_size _ _), funs := trivial, frf := fun b z => absurd (show b ∈ ([] : List Addr) from z) (by simp), hok := hok, bare := .of_eq hg }
    refine codeAny_mono ((F _ hKb (nsK hns)).run s H [.ref a] [.ref a] _ _ e0 (hbind s (.ref a)) (.cons rfl .nil) (hsp H hO hS)) fun r s' h => ?_
    match r, h with
    | .error e, h => exact (hCX H e s' h).elim
    | .ok (.ret u), ⟨v, H', hos, hbare, hun, hok', hrv, hq⟩ =>
      obtain rfl : v = .bl true := hq
      obtain rfl : u = Value.bool true := hrv
      refine ⟨rfl, OldK.of_keep fun b o e => ?_, hos, hbare⟩
      rcases hO b with z | ⟨ob, xs, z⟩
      · exact hun.keep b o e z (fun y => absurd (show b ∈ ([] : List Addr) from y) (by simp)) (by simp)
      · have e1 := (hok b _ z).1; have e2 := (hok' b _ (hun.frzs b ob _ z)).1
        rw [e] at e1; cases e1; exact e2
  cases hk : K.lookup a with
  | some o =>
    have e := KX a o hk
    rw [ha] at e; cases e
    exact core (fun _ => none) (fun _ => .inl rfl) (.inr ⟨_, vs.toArray, _, hk, rfl, rfl, rfl, by rw [List.size_toArray, lenV]; exact hl, by simpa using rv⟩) (fun b u z => nomatch (show (none : Option HO) = some u from z)) (fun b z => absurd rfl z) fun z => absurd rfl z
  | none =>
    refine core (fun b => if b = a then some (.frz { cls := .type "list", data := .seq vs.toArray } (.lst (ns.map V.int))) else none) (fun b => ?_) (.inl (.inr ⟨_, if_pos rfl⟩)) (fun b u z => ?_) (fun b z => ?_) fun _ => hk
    all_goals by_cases hb : b = a
    · exact .inr ⟨_, _, if_pos hb⟩
    · exact .inl (if_neg hb)
    · have z' := (if_pos hb).symm.trans z; cases z'; subst hb
      exact ⟨ha, by rw [List.length_map]; exact hl, vs, _, rv, ha⟩
    · cases (if_neg hb).symm.trans z
    · exact hb
    · exact absurd (if_neg hb) z
theorem walk_top {l : PySem.W.OpenLaw} {n : Nat} {q : Program} {loose : List Str} {XP : (Str → Option Value) → Heap → Prop} {YP : World → Heap → Prop} {d : DefRec} {K : Params → PySem.W.Frag} {CX : World → CXT} {sp : World → Sp} {x : Str} (hn : l.most = some n) (hn2 : n ≤ sizeLine) (hdf : d.params.defaults = [])
    (hY : ∀ (w : World) (h : Heap), YP w h → (K w.params).In h)
    (F : ∀ (w : World) (mg : Str → Option Value) (fa : Addr) (h : Heap), (K w.params).In h → h.Ns mainGlobals mg → mg d.name = some (.ref fa) → ∃ fd : FuncData, (∀ (s : Shared) (u : Value), BindsTo s fd ⟨[u], []⟩ [(x, u)]) ∧ ∀ base : Heap, (K w.params).In base → base.Ns mainGlobals mg → FnTop l.prog w (K w.params) mg base (CX w) fa fd [x] (sp w))
    (hsp : ∀ (w : World) (H : Hp) (a : Addr) (ns : List Int), ns.length ≤ n → (∀ z ∈ ns, Builtin.Int.intBits z ≤ 1048576) → Only H → SqL (K w.params) H a (ns.map V.int) → sp w [.ref a] H (fun v _ => v = .bl true) fun _ _ _ => False)
    (hCX : ∀ (w : World) (H : Hp) (s : Shared) (e : Value) (s' : Shared), CX w [] H s (fun _ _ _ => False) e s' → False) : PySem.W.WalkO q loose XP YP l.row.toRowW d [] (fun f vs => PySem.call f vs) :=
  Att.attach_callB hn hdf fun w s₀ s₁ mg mb fa o pm cd doc a vs ns G Y ho hd hcd hmg hobj hints hlen hbits hg => by
    have inK := hY w _ Y
    obtain ⟨fd, hb, hF⟩ := F w mg fa _ inK G.T.g hmg
    exact call_top inK G.T.g G.T.b G.T.builtins G.T.nolimit hg hobj hints (Nat.le_trans hlen hn2) hF hb (fun H hO hS => hsp w H a ns hlen hbits hO hS) fun H e s' => hCX w H s₁ e s'
theorem guards_top {env : Env} : (callerA.deeper env).guards = some [] := by first | rfl | decide
end Wp
set_option Elab.async false
set_option linter.all false
set_option maxRecDepth 100000
namespace Wp
open PySem PySem.Spec PyProof.Rows L2
/-- what the class D must say, so that isinstance asks its instances rightly -/
def rIsEd (K : PySem.W.Frag) (D a : Addr) (cls : Value) (d : Option Addr) : List V → Hp → VK → Prop := fun xs H Q => ∃ (c : V) (cv : Value) (b : Bool), xs = [.ref a, c] ∧ cls = .ref D ∧ (∀ u, RelV c u → u = cv) ∧ PySem.W.kitOne K (.ref D) cv = some b ∧ (∃ dd fs, d = some dd ∧ H dd = some (.xd fs)) ∧ Q (.bl b) H
theorem call_isEd {X : Cx} {a D : Addr} {cls : Value} {d : Option Addr} {oe : Obj} {pn : List (Addr × Obj)} {K : PySem.W.Frag} (C : ExcC K D) (hz : Zc cls d oe) (hf : ∃ vs, oe.data = .fields vs) (hK : X.K = K := by rfl) : CallR (X.suite a ((a, oe) :: pn)) (.builtin "isinstance") (rIsEd K D a cls d) := by
  subst hK
  rintro pins s σ H xs us Q I r ⟨c, cv, b, rfl, rfl, hcv, e, ⟨dd, fs, rfl, ed⟩, q⟩
  cases r with
  | cons rx rr =>
  cases rr with
  | cons rt rr =>
  cases rr; cases rx
  have ec := hcv _ rt
  subst ec
  have hget := (I.pin (a, oe) (List.mem_append.mpr (.inl List.mem_cons_self))).1
  obtain ⟨vs, hv⟩ := hf
  have hx : ObjOk X.prog X.w H s.heap dd (.xd fs) := I.hok dd _ ed
  obtain ⟨mA, hns, hr⟩ := hx
  obtain ⟨od, ho, hl⟩ := lookIn_ns hns
  have J : PySem.W.InstAt s.heap a oe D (some od) := ⟨hget, hz.1, by unfold PySem.W.notCls; rw [hv] <;> rfl, by rw [hz.2]; exact ho⟩
  have hcl : (PySem.W.clsIn X.K D).isSome = true := by
    have hh : (PySem.W.clsIn X.K D).any (·.hasDict) = true := C.hd
    cases hq : PySem.W.clsIn X.K D with
    | none => rw [hq] at hh; cases hh
    | some cd => rfl
  exact PySem.W.kia_one (PySem.W.kitx_exc hcl C.hg C.hk C.hs C.ha C.hn C.ht C.hm) I.kIn J e (fun z => nomatch z) fun tk => ⟨.bl b, H, I.kept (t' := tk) fun _ _ z => z, rfl, q⟩
/-- repr of rows of data -/
def rRepr (K : PySem.W.Frag) : List V → Hp → VK → Prop := fun xs H Q => ∃ a d, xs = [.ref a] ∧ Dp K H (.ref a) d ∧ d.showable = true ∧ d.hasDict = false ∧ d.depth ≤ 60 ∧ d.shown.length ≤ sizeLine ∧ Q (.str d.shown) H
theorem wc_repr {X : Cx} {K : PySem.W.Frag} (hg : X.A.guards = some []) (hu : X.A.units + 65 < cLine) (hK : X.K = K := by rfl) : CallR X (.builtin "repr") (rRepr K) := by
  subst hK
  rintro pins s σ H xs us Q I r ⟨a, d, rfl, hd, hs, hnd, hdp, hsz, q⟩
  rw [Vals.ref1 r]
  obtain ⟨as, rd⟩ := Dp.reads I d _ _ hd (show RelV (.ref a) (.ref a) from rfl)
  exact repr_of_reads' rd hs (fun z => by rw [hnd] at z; cases z) hg (by omega) (fun _ _ z => z) (fun h' u tk hk => ⟨.str d.shown, H, I.kept (t' := tk) hk, ⟨_, rfl⟩, q⟩) hsz
/-- sorted of a list of data -/
def rSortD (K : PySem.W.Frag) : List V → Hp → VK → Prop := fun xs H Q => ∃ a vs ds, xs = [.ref a] ∧ SqL K H a vs ∧ DpAll K H vs ds ∧ PySem.W.AllAlike ds ∧ PySem.W.Sortable ds ∧ (∀ d ∈ ds, d.depth ≤ 60) ∧
  ∀ (zs : List (V × PyData)) (p : Addr), zs.Perm (vs.zip ds) → zs = (vs.zip ds).mergeSort (PySem.W.dataLe false Prod.snd) → H p = none → Q (.ref p) (upd H p (.lst (zs.map (·.1))))
theorem wc_sorted {X : Cx} {K : PySem.W.Frag} (hu : X.A.units + 65 < cLine) (hK : X.K = K := by rfl) : CallR X (.builtin "sorted") (rSortD K) := by
  subst hK
  rintro pins s σ H xs us Q I r ⟨a, vs, ds, rfl, hs, hal, hall, hk, hdp, q⟩
  obtain ⟨its, rv, hl, hz⟩ := I.list hs
  rw [Vals.ref1 r]
  have hlen := dps_len hal
  have hsnd : (vs.zip ds).map Prod.snd = ds := List.map_snd_zip (by omega)
  have e1 : ∀ {vs : List V} {its : List Value} {ds : List PyData}, Vals vs its → vs.length = ds.length → PySem.W.EachIs (fun u (b : V × PyData) => RelV b.1 u) its (vs.zip ds) := by
    intro vs its ds rv
    induction rv generalizing ds with
    | nil => intro h; exact .nil
    | cons r _ ih =>
      intro h
      cases ds with
      | nil => cases h
      | cons d ds => exact .cons r (ih (by simpa using h))
  have e2 : ∀ {vs : List V} {its : List Value} {ds : List PyData}, Vals vs its → DpAll X.K H vs ds → PySem.W.EachIs (fun u (b : V × PyData) => ∃ as, Reads s.heap u b.2 as) its (vs.zip ds) := by
    intro vs its ds rv
    induction rv generalizing ds with
    | nil => intro h; exact .nil
    | cons r _ ih =>
      intro h
      cases h with
      | cons h1 h2 => exact .cons (Dp.reads I _ _ _ h1 r) (ih h2)
  have e3 : ∀ {its : List Value} {zs : List (V × PyData)}, PySem.W.EachIs (fun u (b : V × PyData) => RelV b.1 u) its zs → Vals (zs.map (·.1)) its := by
    intro its zs h
    induction h with
    | nil => exact .nil
    | cons h1 _ ih => exact .cons h1 ih
  refine PySem.W.sorted_data (R := fun u (b : V × PyData) => RelV b.1 u) (enc := Prod.snd) hl.isList (e1 rv hlen) (e2 rv hal) (by rw [hsnd]; exact hall) (by rw [hsnd]; exact hk) (by rw [List.length_zip]; omega) (fun b hb => ?_) fun out hol ho => ?_
  · have := hdp b.2 (List.of_mem_zip hb).2
    show X.A.units + 2 + b.2.depth < cLine
    omega
  · obtain ⟨ep, he'⟩ := sortedAll_at s.heap its out.toArray
    have hp := List.mergeSort_perm (vs.zip ds) (PySem.W.dataLe false Prod.snd)
    have hlz : (((vs.zip ds).mergeSort (PySem.W.dataLe false Prod.snd)).map (·.1)).length ≤ sizeLine := by rw [List.length_map, hp.length_eq, List.length_zip]; omega
    exact ⟨.ref _, upd H (s.heap.objs.size + 1) (.lst (((vs.zip ds).mergeSort (PySem.W.dataLe false Prod.snd)).map (·.1))), I.laid (t' := s.toks) (fun _ _ => sortedAll_old) (Nat.le_succ _) ⟨hlz, out, ep, e3 ho, by simpa using he'⟩, rfl, q _ _ hp rfl (I.hok.fresh (Nat.le_succ _))⟩
end Wp
set_option Elab.async false
set_option linter.all false
set_option maxRecDepth 100000
namespace Wp
open PySem PySem.Spec PyProof.Rows L2
section
variable {σ : L2.St} {H : Hp} {Q : VK} {D : Ends} {K : PySem.W.Frag}
/-! steps over dicts -/
theorem din {ty td : TE} (h : ty σ H fun y H1 => td σ H1 fun x H2 => ∃ a o, x = .ref a ∧ DGet H2 a y o ∧ Q (.bl o.isSome) H2) : tDIn ty td σ H Q := h
theorem dnotin {ty td : TE} (h : ty σ H fun y H1 => td σ H1 fun x H2 => ∃ a o, x = .ref a ∧ DGet H2 a y o ∧ Q (.bl (!o.isSome)) H2) : tDNotIn ty td σ H Q := h
theorem dget {td ty : TE} (h : td σ H fun x H1 => ty σ H1 fun y H2 => ∃ a v, x = .ref a ∧ DGet H2 a y (some v) ∧ Q v H2) : tDGet td ty σ H Q := h
theorem dget2 {td ty tx : TE} (h : td σ H fun x H1 => ∃ a, x = .ref a ∧ IsD H1 a ∧ ty σ H1 fun y H2 => tx σ H2 fun z H3 => ∃ o, DGet H3 a y o ∧ Q (o.getD z) H3) : tDGet2 td ty tx σ H Q := h
theorem dput {td ty tv : TE} (h : tv σ H fun v H1 => td σ H1 fun x H2 => ty σ H2 fun y H3 => ∃ a H4, x = .ref a ∧ DPut H3 a y v H4 ∧ D.nx σ H4) : sDPut td ty tv D σ H := h
theorem dnewK (h : ∀ p, H p = none → Q (.ref p) (upd H p (.dK []))) : tDNewK σ H Q := h
theorem dnewT (h : ∀ p, H p = none → Q (.ref p) (upd H p (.dT []))) : tDNewT σ H Q := h
theorem dK_in {a : Addr} {kvs : List (Key × V)} {z : Str} {R : Option V → Prop} (h : H a = some (.dK kvs)) (q : R (valV kvs (Sum.inr z))) : ∃ b o, V.ref a = .ref b ∧ DGet H b (.str z) o ∧ R o := ⟨a, _, rfl, DGet.k (k := Sum.inr z) h, q⟩
theorem dK_get {a : Addr} {kvs : List (Key × V)} {z : Str} {v : V} {R : V → Prop} (h : H a = some (.dK kvs)) (e : valV kvs (Sum.inr z) = some v) (q : R v) : ∃ b w, V.ref a = .ref b ∧ DGet H b (.str z) (some w) ∧ R w := ⟨a, v, rfl, by rw [← e]; exact DGet.k (k := Sum.inr z) h, q⟩
theorem dK_put {a : Addr} {kvs : List (Key × V)} {z : Str} {v : V} {R : Hp → Prop} (h : H a = some (.dK kvs)) (hl : kvs.length < sizeLine) (q : R (upd H a (.dK (putK kvs (Sum.inr z) v)))) : ∃ b H4, V.ref a = .ref b ∧ DPut H b (.str z) v H4 ∧ R H4 := ⟨a, _, rfl, DPut.k (k := Sum.inr z) h hl, q⟩
theorem dT_in {a b : Addr} {kvs : List (List Key × V)} {k : List Key} {R : Option V → Prop} (h : H a = some (.dT kvs)) (hb : H b = some (.tup (k.map kV))) (q : R (valV kvs k)) : ∃ c o, V.ref a = .ref c ∧ DGet H c (.ref b) o ∧ R o := ⟨a, _, rfl, DGet.t h hb, q⟩
theorem dT_put {a b : Addr} {kvs : List (List Key × V)} {k : List Key} {v : V} {R : Hp → Prop} (h : H a = some (.dT kvs)) (hb : H b = some (.tup (k.map kV))) (hl : kvs.length < sizeLine) (q : R (upd H a (.dT (putK kvs k v)))) : ∃ c H4, V.ref a = .ref c ∧ DPut H c (.ref b) v H4 ∧ R H4 := ⟨a, _, rfl, DPut.t h hb hl, q⟩
/-! lists: pop; texts: join -/
theorem bm0 {T : String} {r : V → List V → Hp → VK → Prop} {te : TE} (h : te σ H fun x H1 => tyV K T x H1 ∧ r x [] H1 Q) : tBM0 K T r te σ H Q := h
theorem pop {p : Addr} {xs : List V} {y : V} (s : H p = some (.lst (xs ++ [y]))) (h : Q y (upd H p (.lst xs))) : rPop (.ref p) [] H Q := ⟨p, xs ++ [y], y, rfl, rfl, s, by simp, by simpa using h⟩
theorem wbm0 {X : Cx} {K : PySem.W.Frag} {T : String} {r : V → List V → Hp → VK → Prop} {e : Expr} {te : TE} (h : PE X e (tBM0 X.K T r te)) (hK : X.K = K := by rfl) : PE X e (tBM0 K T r te) := by subst hK; exact h
def rJoin (K : PySem.W.Frag) : V → List V → Hp → VK → Prop := fun x xs H Q => ∃ a p, ∃ ys : List Str, x = .str a ∧ xs = [.ref p] ∧ (SqL K H p (ys.map V.str) ∨ SqT K H p (ys.map V.str)) ∧ (ys.map (·.length)).sum + ys.length * a.length ≤ 16777216 ∧ Q (.str (Txt.join a ys)) H
theorem wjoin {X : Cx} {K : PySem.W.Frag} {e : Expr} {te tf : TE} (h : PE X e (tM1 (rJoin X.K) te tf)) (hK : X.K = K := by rfl) : PE X e (tM1 (rJoin K) te tf) := by subst hK; exact h
theorem m1 {r : V → List V → Hp → VK → Prop} {te tf : TE} (h : te σ H fun x H1 => (∃ a, x = .str a) ∧ tf σ H1 fun y H2 => r x [y] H2 Q) : tM1 r te tf σ H Q := h
theorem exs {a : Str} {P : Prop} (h : P) : (∃ b, V.str a = .str b) ∧ P := ⟨⟨a, rfl⟩, h⟩
/-- x is None, x is not None -/
def rIs0 : R2 := fun x y H Q => y = .non ∧ Q (.bl (decide (x = .non))) H
def rNot0 : R2 := fun x y H Q => y = .non ∧ Q (.bl (!decide (x = .non))) H
theorem is0 {x : V} (h : Q (.bl (decide (x = .non))) H) : rIs0 x .non H Q := ⟨rfl, h⟩
theorem isnot0 {x : V} (h : Q (.bl (!decide (x = .non))) H) : rNot0 x .non H Q := ⟨rfl, h⟩
/-! fields -/
theorem fld {ta : TE} {f : Str} (h : ta σ H fun x H1 => ∃ a C dx fs v, x = .ref a ∧ H1 a = some (.ins C dx fs) ∧ Cls K C ∧ NoAttr K C f ∧ fs.lookup f = some v ∧ Q v H1) : tFld K ta f σ H Q := h
theorem sfld {ta tv : TE} {f : Str} (h : tv σ H fun y H1 => ta σ H1 fun x H2 => ∃ a C dx fs, x = .ref a ∧ H2 a = some (.ins C dx fs) ∧ Cls K C ∧ NoAttr K C f ∧ fs.length < 1000 ∧ D.nx σ (upd H2 a (.ins C dx (putF f y fs)))) : sFld K ta tv f D σ H := h
theorem itnn {α : Type} {x : α} {i : Decidable (x = x)} {A B : Prop} (h2 : B) : if (!(@decide (x = x) i)) = true then A else B := Wp.itn (fun h => (h rfl).elim) (fun _ => h2)
end
theorem wo_is {X : Cx} : OpR X (compareOp .Is) rIs0 := op_isN
theorem wo_isnot {X : Cx} : OpR X (compareOp .IsNot) rNot0 := op_notN
theorem wfld {X : Cx} {K : PySem.W.Frag} {e : Expr} {te : TE} {f : Str} (h : PE X e (tFld X.K te f)) (hK : X.K = K := by rfl) : PE X e (tFld K te f) := by subst hK; exact h
theorem wsfld {X : Cx} {K : PySem.W.Frag} {s : Stmt} {te tv : TE} {f : Str} (h : PS X s (sFld X.K te tv f)) (hK : X.K = K := by rfl) : PS X s (sFld K te tv f) := by subst hK; exact h
/-- list(x) of rows, of dicts with tuple keys, of dicts with text keys -/
def rLstT : List V → Hp → VK → Prop := fun xs H Q => ∃ d kvs, xs = [V.ref d] ∧ Rd H d (.dT kvs) ∧ ∀ p bs, H p = none → IsKeys H kvs bs → Q (.ref p) (upd H p (.lst (bs.map V.ref)))
def rLstU (K : PySem.W.Frag) : List V → Hp → VK → Prop := fun xs H Q => rLstOf K xs H Q ∨ rLstT xs H Q ∨ rListD xs H Q
theorem wc_listU {X : Cx} {K : PySem.W.Frag} (hc : X.calm = true) (hK : X.K = K := by rfl) : CallR X (.type "list") (rLstU K) := by subst hK; exact call_list_of.or ((call_list_dT hc).or (call_list_dK hc))
end Wp
set_option Elab.async false
set_option linter.all false
set_option maxRecDepth 100000
namespace Bk
open PySem PySem.Spec PyProof.Rows L2
/-! texts as lists of signs -/
abbrev cl (z : Str) : List Nat := z.cps.toList
def mkS (l : List Nat) : Str := ⟨l.toArray⟩
theorem cl_mk (l : List Nat) : cl (mkS l) = l := by simp [cl, mkS]
theorem mk_cl (z : Str) : mkS (cl z) = z := by
  obtain ⟨a⟩ := z
  simp [cl, mkS]
theorem len_cl (z : Str) : (cl z).length = z.length := by show z.cps.toList.length = z.cps.size; simp
theorem len_mk (l : List Nat) : (mkS l).length = l.length := by rw [← len_cl, cl_mk]
theorem ext {a b : Str} (h : cl a = cl b) : a = b := by rw [← mk_cl a, ← mk_cl b, h]
theorem cutS_lo {z : Str} {i : Int} (k : Nat) (e : i = k) : cutS z (some i) none = mkS ((cl z).drop k) := by
  subst e
  unfold cutS mkS
  have hl := len_cl z
  rw [HT.sIx_none, HT.sIx_nat, List.take_of_length_le (by rw [List.length_drop, hl]; exact Nat.le_refl _)]
  rcases Nat.le_total k z.length with h | h
  · rw [Nat.min_eq_left h]
  · rw [Nat.min_eq_right h, List.drop_of_length_le (by rw [hl]; exact Nat.le_refl _), List.drop_of_length_le (by rw [hl]; exact h)]
theorem cutS_hi {z : Str} {i : Int} (k : Nat) (e : i = k) : cutS z none (some i) = mkS ((cl z).take k) := by
  subst e
  unfold cutS mkS
  rw [HT.sIx_none, HT.sIx_nat, List.drop_zero, Nat.sub_zero]
  have hl := len_cl z
  rcases Nat.le_total k z.length with h | h
  · rw [Nat.min_eq_left h]
  · rw [Nat.min_eq_right h, List.take_of_length_le (by rw [hl]; exact Nat.le_refl _), List.take_of_length_le (by rw [hl]; exact h)]
theorem cutS_mid {z : Str} {i j : Int} (k m : Nat) (e : i = k) (e2 : j = m) (hk : k ≤ z.length) : cutS z (some i) (some j) = mkS (((cl z).drop k).take (m - k)) := by
  subst e; subst e2
  unfold cutS mkS
  rw [HT.sIx_nat, HT.sIx_nat, Nat.min_eq_left hk]
  have hl := len_cl z
  rcases Nat.le_total m z.length with h | h
  · rw [Nat.min_eq_left h]
  · rw [Nat.min_eq_right h, List.take_of_length_le (by rw [List.length_drop, hl]; exact Nat.le_refl _), List.take_of_length_le (by rw [List.length_drop, hl]; omega)]
theorem cutV_tail4 {xs : List V} : cutV xs (some (-4)) none = xs.drop (xs.length - 4) := by
  unfold cutV
  have e : HT.sIx xs.length 0 (some (-4)) = xs.length - 4 := by
    show (if (-4 : Int) < 0 then ((-4 : Int) + (xs.length : Int)).toNat else min (-4 : Int).toNat xs.length) = _
    rw [if_pos (by omega)]; omega
  rw [HT.sIx_none, e]
  exact List.take_of_length_le (by rw [List.length_drop]; exact Nat.le_refl _)
abbrev ch (c : Nat) : V := .str ⟨#[c]⟩
theorem join_chars (l : List Nat) : Txt.join "" (l.map fun c => (⟨#[c]⟩ : Str)) = mkS l := by
  refine ext ?_
  rw [cl_mk]
  show TL.tl (Txt.join "" (l.map fun c => (⟨#[c]⟩ : Str))) = l
  rw [TL.join_eq, TL.tl_join]
  show TL.joinL [] ((l.map fun c => (⟨#[c]⟩ : Str)).map TL.tl) = l
  induction l with
  | nil => rfl
  | cons a t ih =>
    cases t with
    | nil => rfl
    | cons b t =>
      show [a] ++ ([] ++ TL.joinL [] (((b :: t).map fun c => (⟨#[c]⟩ : Str)).map TL.tl)) = _
      rw [ih]; rfl
/-! the first rule with a left side -/
def firstFrom : Nat → List (Str × Str) → Str → Option (Nat × Str)
  | _, [], _ => none
  | i, (l, r) :: t, x => if l = x then some (i, r) else firstFrom (i + 1) t x
abbrev firstOf (rs : List (Str × Str)) (x : Str) : Option (Nat × Str) := firstFrom 0 rs x
theorem firstFrom_snoc {l r x : Str} : ∀ {rs : List (Str × Str)} {i : Nat}, firstFrom i (rs ++ [(l, r)]) x = match firstFrom i rs x with
    | some y => some y
    | none => if l = x then some (i + rs.length, r) else none
  | [], i => by
    show (if l = x then some (i, r) else none) = if l = x then some (i + 0, r) else none
    rfl
  | (a, b) :: rs, i => by
    show (if a = x then some (i, b) else firstFrom (i + 1) (rs ++ [(l, r)]) x) = match (if a = x then some (i, b) else firstFrom (i + 1) rs x) with
      | some y => some y
      | none => if l = x then some (i + (rs.length + 1), r) else none
    by_cases h : a = x
    · rw [if_pos h, if_pos h]
    · rw [if_neg h, if_neg h, firstFrom_snoc, show i + 1 + rs.length = i + (rs.length + 1) by omega]
theorem firstFrom_mem {x : Str} {n : Nat} {r : Str} : ∀ {rs : List (Str × Str)} {i : Nat}, firstFrom i rs x = some (n, r) → i ≤ n ∧ rs[n - i]? = some (x, r)
  | [], _, h => by cases h
  | (a, b) :: rs, i, h => by
    have h' : (if a = x then some (i, b) else firstFrom (i + 1) rs x) = some (n, r) := h
    by_cases e : a = x
    · rw [if_pos e] at h'
      cases h'
      subst e
      exact ⟨Nat.le_refl _, by simp⟩
    · rw [if_neg e] at h'
      obtain ⟨h1, h2⟩ := firstFrom_mem h'
      refine ⟨by omega, ?_⟩
      rw [show n - i = (n - (i + 1)) + 1 by omega]
      simpa using h2
theorem firstOf_mem {x : Str} {n : Nat} {r : Str} {rs : List (Str × Str)} (h : firstOf rs x = some (n, r)) : rs[n]? = some (x, r) := by simpa using (firstFrom_mem h).2
/-- the first rule that fits: at which a piece from a start on is a left side -/
def stepFit (rs : List (Str × Str)) (tail : List Nat) (best : Option (Nat × Str × Str)) (k : Nat) : Option (Nat × Str × Str) := match firstOf rs (mkS (tail.drop k)) with
  | none => best
  | some (n, r) => match best with
    | none => some (n, mkS (tail.drop k), r)
    | some (m, x, y) => if n < m then some (n, mkS (tail.drop k), r) else some (m, x, y)
def fit (rs : List (Str × Str)) (tail : List Nat) : Option (Nat × Str × Str) := (List.range tail.length).foldl (stepFit rs tail) none
/-- rules of which each left side is longer than its right side -/
def Good (rs : List (Str × Str)) : Prop := ∀ p ∈ rs, p.1.length ≤ 4 ∧ p.2.length ≤ 1 ∧ p.2.length < p.1.length
theorem fit_mem {rs : List (Str × Str)} {tail : List Nat} : ∀ (ks : List Nat) (b : Option (Nat × Str × Str)), (∀ n l r, b = some (n, l, r) → rs[n]? = some (l, r) ∧ ∃ k, cl l = tail.drop k) →
    ∀ n l r, ks.foldl (stepFit rs tail) b = some (n, l, r) → rs[n]? = some (l, r) ∧ ∃ k, cl l = tail.drop k
  | [], b, h, n, l, r, e => h n l r e
  | k :: ks, b, h, n, l, r, e => by
    refine fit_mem ks (stepFit rs tail b k) (fun n l r e => ?_) n l r e
    unfold stepFit at e
    cases hf : firstOf rs (mkS (tail.drop k)) with
    | none => rw [hf] at e; exact h n l r e
    | some q =>
      obtain ⟨m, y⟩ := q
      rw [hf] at e
      cases b with
      | none => cases e; exact ⟨firstOf_mem hf, k, cl_mk _⟩
      | some q =>
        obtain ⟨m2, x2, y2⟩ := q
        simp only at e
        split at e
        · cases e; exact ⟨firstOf_mem hf, k, cl_mk _⟩
        · exact h n l r e
theorem fit_ok {rs : List (Str × Str)} {tail : List Nat} {n : Nat} {l r : Str} (h : fit rs tail = some (n, l, r)) : rs[n]? = some (l, r) ∧ ∃ k, cl l = tail.drop k := fit_mem _ none (fun _ _ _ z => nomatch z) n l r h
abbrev last4 (p : List Nat) : List Nat := p.drop (p.length - 4)
/-- the pile while rules fit -/
def shrinkP (rs : List (Str × Str)) : Nat → List Nat → List Nat
  | 0, p => p
  | f + 1, p => match fit rs (last4 p) with
    | none => p
    | some (_, l, r) => shrinkP rs f (p.take (p.length - l.length) ++ cl r)
def overP (rs : List (Str × Str)) (text : List Nat) : List Nat := text.foldl (fun p c => shrinkP rs (p ++ [c]).length (p ++ [c])) []
theorem fit_len {rs : List (Str × Str)} (g : Good rs) {p : List Nat} {n : Nat} {l r : Str} (h : fit rs (last4 p) = some (n, l, r)) : 1 ≤ l.length ∧ l.length ≤ 4 ∧ r.length ≤ 1 ∧ r.length < l.length ∧ l.length ≤ p.length := by
  obtain ⟨h1, k, h2⟩ := fit_ok h
  obtain ⟨a, b, c⟩ := g _ (List.mem_of_getElem? h1)
  have : l.length ≤ p.length := by
    rw [← len_cl, h2, List.length_drop, List.length_drop]; omega
  simp only at a b c
  exact ⟨by omega, a, b, c, this⟩
/-- enough turns -/
theorem shrinkP_more {rs : List (Str × Str)} (g : Good rs) : ∀ (f e : Nat) (p : List Nat), p.length ≤ f → p.length ≤ e → shrinkP rs f p = shrinkP rs e p
  | 0, 0, _, _, _ => rfl
  | 0, e + 1, p, h, _ => by
    have hp : p = [] := List.length_eq_zero_iff.mp (by omega)
    subst hp
    rfl
  | f + 1, 0, p, _, h => by
    have hp : p = [] := List.length_eq_zero_iff.mp (by omega)
    subst hp
    rfl
  | f + 1, e + 1, p, h1, h2 => by
    unfold shrinkP
    cases h : fit rs (last4 p) with
    | none => rfl
    | some q =>
      obtain ⟨n, l, r⟩ := q
      obtain ⟨_, _, _, h3, h4⟩ := fit_len g h
      refine shrinkP_more g f e _ ?_ ?_ <;> (rw [List.length_append, List.length_take, len_cl]; omega)
/-- the rules that stand at addresses -/
def RulesAt (H : Hp) : List Addr → List (Str × Str) → Prop
  | [], [] => True
  | b :: bs, p :: ps => H b = some (.tup [.str p.1, .str p.2]) ∧ RulesAt H bs ps
  | _, _ => False
theorem RulesAt.same {H H' : Hp} (s : Same H H') : ∀ {bs : List Addr} {ps : List (Str × Str)}, RulesAt H bs ps → RulesAt H' bs ps
  | [], [], _ => trivial
  | _ :: _, _ :: _, h => ⟨s _ _ h.1, RulesAt.same s h.2⟩
  | [], _ :: _, h => h.elim
  | _ :: _, [], h => h.elim
theorem RulesAt.len {H : Hp} : ∀ {bs : List Addr} {ps : List (Str × Str)}, RulesAt H bs ps → bs.length = ps.length
  | [], [], _ => rfl
  | _ :: _, _ :: _, h => by rw [List.length_cons, List.length_cons, RulesAt.len h.2]
  | [], _ :: _, h => h.elim
  | _ :: _, [], h => h.elim
theorem RulesAt.get {H : Hp} : ∀ {bs : List Addr} {ps : List (Str × Str)} {i : Nat} {p : Str × Str}, RulesAt H bs ps → ps[i]? = some p → ∃ b, bs[i]? = some b ∧ H b = some (.tup [.str p.1, .str p.2])
  | _ :: _, _ :: _, 0, _, h, e => by simp at e; subst e; exact ⟨_, rfl, h.1⟩
  | _ :: _, _ :: _, i + 1, _, h, e => by
    obtain ⟨b, h1, h2⟩ := RulesAt.get (i := i) h.2 (by simpa using e)
    exact ⟨b, by simpa using h1, h2⟩
  | [], [], _, _, _, e => by simp at e
  | [], _ :: _, _, _, h, _ => h.elim
  | _ :: _, [], _, _, h, _ => h.elim
/-- what a rule is -/
structure RuleOk (sg l r : Str) : Prop where
  l4 : l.length ≤ 4
  r1 : r.length ≤ 1
  lt : r.length < l.length
  lc : ∀ c ∈ l.cps.toList, c ∈ sg.cps.toList
  rc : ∀ c ∈ r.cps.toList, c ∈ sg.cps.toList
end Bk
set_option Elab.async false
set_option linter.all false
set_option maxRecDepth 100000
namespace Bk
open PySem PySem.Spec PyProof.Rows L2
def RelF (H : Hp) : Option V → Option (Nat × Str) → Prop
  | none, none => True
  | some v, some (n, r) => ∃ b, v = .ref b ∧ H b = some (.tup [.int n, .str r])
  | _, _ => False
theorem RelF.same {H H' : Hp} (s : ∀ b xs, H b = some (.tup xs) → H' b = some (.tup xs)) : ∀ {o : Option V} {p : Option (Nat × Str)}, RelF H o p → RelF H' o p
  | none, none, _ => trivial
  | some _, some _, ⟨b, e, h⟩ => ⟨b, e, s _ _ h⟩
  | none, some _, h => h.elim
  | some _, none, h => h.elim
/-- the dict of first rights of rules -/
structure RightsAt (H : Hp) (d : Addr) (rs : List (Str × Str)) : Prop where
  ex : ∃ kvs : List (Key × V), H d = some (.dK kvs) ∧ kvs.length ≤ rs.length ∧ ∀ x, RelF H (valV kvs (Sum.inr x)) (firstOf rs x)
theorem RightsAt.same {H H' : Hp} {d : Addr} {rs : List (Str × Str)} (s : Same H H') (h : RightsAt H d rs) : RightsAt H' d rs := by
  obtain ⟨kvs, h1, h2, h3⟩ := h.ex
  exact ⟨kvs, s _ _ h1, h2, fun x => (h3 x).same fun b xs e => s _ _ e⟩
theorem rights_get {H : Hp} {kvs : List (Key × V)} {rs : List (Str × Str)} {x : Str} (h : ∀ x, RelF H (valV kvs (Sum.inr x)) (firstOf rs x)) : (valV kvs (Sum.inr x)).isSome = (firstOf rs x).isSome := by
  have := h x
  cases h1 : valV kvs (Sum.inr x) <;> cases h2 : firstOf rs x <;> rw [h1, h2] at this <;> first | rfl | exact this.elim
theorem rights_some {H : Hp} {kvs : List (Key × V)} {rs : List (Str × Str)} {x : Str} {n : Nat} {r : Str} (h : ∀ x, RelF H (valV kvs (Sum.inr x)) (firstOf rs x)) (e : firstOf rs x = some (n, r)) : ∃ b, valV kvs (Sum.inr x) = some (.ref b) ∧ H b = some (.tup [.int n, .str r]) := by
  have := h x
  rw [e] at this
  cases h1 : valV kvs (Sum.inr x) with
  | none => rw [h1] at this; exact this.elim
  | some v =>
    rw [h1] at this
    obtain ⟨b, rfl, hb⟩ := this
    exact ⟨b, rfl, hb⟩
/-- one rule more, its left side not there yet -/
theorem rights_new {H : Hp} {d T : Addr} {kvs : List (Key × V)} {rs : List (Str × Str)} {l r : Str} (hd : H d = some (.dK kvs)) (hl : kvs.length ≤ rs.length) (h : ∀ x, RelF H (valV kvs (Sum.inr x)) (firstOf rs x)) (e : firstOf rs l = none) (hT : H T = some (.tup [.int (rs.length : Nat), .str r])) :
    RightsAt (upd H d (.dK (putK kvs (Sum.inr l) (.ref T)))) d (rs ++ [(l, r)]) := by
  have hn : valV kvs (Sum.inr l) = none := by
    have := rights_get h (x := l)
    rw [e] at this
    cases q : valV kvs (Sum.inr l) with
    | none => rfl
    | some _ => rw [q] at this; cases this
  refine ⟨_, upd_same, ?_, fun x => ?_⟩
  · have := length_putK kvs (Sum.inr l) (V.ref T)
    rw [List.length_append]; simp; omega
  · have hk : ∀ b xs, H b = some (.tup xs) → upd H d (.dK (putK kvs (Sum.inr l) (.ref T))) b = some (.tup xs) := fun b xs e => by
      rw [upd_ne (ne_of e hd (by intro z; cases z))]; exact e
    rw [valV_put]
    show RelF _ _ (firstFrom 0 (rs ++ [(l, r)]) x)
    rw [firstFrom_snoc]
    by_cases hx : x = l
    · subst hx
      rw [if_pos rfl]
      have e' : firstFrom 0 rs x = none := e
      rw [e']
      show RelF _ _ (if x = x then some (0 + rs.length, r) else none)
      rw [if_pos rfl, Nat.zero_add]
      exact ⟨T, rfl, hk _ _ hT⟩
    · rw [if_neg (fun z => hx (Sum.inr.inj z))]
      have hh := (h x).same hk
      cases q : firstFrom 0 rs x with
      | none =>
        show RelF _ _ (if l = x then some (0 + rs.length, r) else none)
        rw [if_neg (fun z => hx z.symm)]
        rw [show firstOf rs x = none from q] at hh
        exact hh
      | some y =>
        rw [show firstOf rs x = some y from q] at hh
        exact hh
theorem rights_old {H : Hp} {d : Addr} {rs : List (Str × Str)} {l r : Str} (h : RightsAt H d rs) (e : firstOf rs l ≠ none) : RightsAt H d (rs ++ [(l, r)]) := by
  obtain ⟨kvs, h1, h2, h3⟩ := h.ex
  refine ⟨kvs, h1, by rw [List.length_append]; omega, fun x => ?_⟩
  show RelF _ _ (firstFrom 0 (rs ++ [(l, r)]) x)
  rw [firstFrom_snoc]
  have hh := h3 x
  cases q : firstFrom 0 rs x with
  | some y => rw [show firstOf rs x = some y from q] at hh; exact hh
  | none =>
    rw [show firstOf rs x = none from q] at hh
    show RelF _ _ (if l = x then some (0 + rs.length, r) else none)
    rw [if_neg (fun z => by subst z; exact e q)]
    exact hh
/-- the best fit so far -/
def BestV (H : Hp) (v : V) : Option (Nat × Str × Str) → Prop
  | none => v = .non
  | some (n, l, r) => ∃ b, v = .ref b ∧ H b = some (.tup [.int n, .str l, .str r])
theorem BestV.same {H H' : Hp} {v : V} (s : Same H H') : ∀ {o : Option (Nat × Str × Str)}, BestV H v o → BestV H' v o
  | none, h => h
  | some _, ⟨b, e, h⟩ => ⟨b, e, s _ _ h⟩
theorem sls {K : PySem.W.Frag} {z : Str} {lo hi : Option Int} {H : Hp} {Q : VK} (h : z.length ≤ 1000) (q : Q (.str (cutS z lo hi)) H) : Wp.rSlU K (.str z) lo hi H Q := .inr (.inr ⟨z, rfl, Nat.le_of_lt (small1000 h), q⟩)
theorem best_none {H : Hp} {v : V} {o : Option (Nat × Str × Str)} (h : BestV H v o) : decide (v = .non) = o.isNone := by
  cases o with
  | none => cases h; rfl
  | some p =>
    obtain ⟨b, rfl, _⟩ := h
    rfl
theorem last_snoc {α : Type} (l : List α) (h : 0 < l.length) : ∃ c, l = l.take (l.length - 1) ++ [c] := by
  rcases List.eq_nil_or_concat l with z | ⟨a, c, z⟩
  · subst z; exact absurd h (by simp)
  · rw [List.concat_eq_append] at z
    subst z
    exact ⟨c, by simp⟩
theorem sum_ones (l : List Nat) : ((l.map fun c => (⟨#[c]⟩ : Str)).map (·.length)).sum = l.length := by
  induction l with
  | nil => rfl
  | cons a l ih =>
    rw [List.map_cons, List.map_cons, List.sum_cons, ih, List.length_cons]
    show 1 + l.length = l.length + 1
    omega
theorem joinC {K : PySem.W.Frag} {p : Addr} {l : List Nat} {H : Hp} {Q : VK} (s : SqL K H p (l.map ch)) (h : l.length ≤ 1000000) (q : Q (.str (mkS l)) H) : Wp.rJoin K (.str "") [.ref p] H Q := by
  refine ⟨"", p, l.map fun c => (⟨#[c]⟩ : Str), rfl, rfl, .inl ?_, ?_, ?_⟩
  · rw [List.map_map]; exact s
  · rw [sum_ones, List.length_map]
    show l.length + l.length * 0 ≤ 16777216
    omega
  · rw [join_chars]; exact q
theorem cut4 {cs : List Nat} : cutV (cs.map ch) (some (-4)) none = (last4 cs).map ch := by
  rw [cutV_tail4, List.length_map, List.map_drop]
theorem shrinkP_none {rs : List (Str × Str)} {p : List Nat} (h : fit rs (last4 p) = none) : ∀ f, shrinkP rs f p = p
  | 0 => rfl
  | f + 1 => by unfold shrinkP; rw [h]
theorem shrinkP_some {rs : List (Str × Str)} (g : Good rs) {p : List Nat} {n : Nat} {l r : Str} (h : fit rs (last4 p) = some (n, l, r)) : shrinkP rs p.length p = shrinkP rs (p.take (p.length - l.length) ++ cl r).length (p.take (p.length - l.length) ++ cl r) := by
  obtain ⟨h1, h2, h3, h4, h5⟩ := fit_len g h
  obtain ⟨f, hf⟩ : ∃ f, p.length = f + 1 := ⟨p.length - 1, by omega⟩
  have h6 : shrinkP rs (f + 1) p = shrinkP rs f (p.take (p.length - l.length) ++ cl r) := by rw [shrinkP, h]
  refine (congrArg (fun n => shrinkP rs n p) hf).trans (h6.trans (shrinkP_more g _ _ _ ?_ (Nat.le_refl _)))
  rw [List.length_append, List.length_take, len_cl]; omega
theorem truS {K : PySem.W.Frag} {H : Hp} {z : Str} {R : Bool → Prop} (s : z.length ≤ 1000) (h : R ((z.length : Int) != 0)) : ∃ k, TruV K (.str z) H k ∧ R k := ⟨_, ⟨Nat.le_of_lt (small1000 s), rfl⟩, h⟩
/-- a while loop whose test reads one name -/
theorem whileN {i : Nat} {tb : TS} {D : Ends} {σ : L2.St} {H : Hp} (Pv : L2.St → Hp → Prop) (μ : L2.St → Hp → Nat) (h0 : Pv σ H)
    (hs : ∀ σ H, Pv σ H → ∃ v, σ[i]? = some (some v) ∧ if (!decide (v = .non)) = true then tb { D with nx := fun σ' H' => Pv σ' H' ∧ μ σ' H' < μ σ H, ct := fun σ' H' => Pv σ' H' ∧ μ σ' H' < μ σ H, bk := D.nx } σ H else D.nx σ H) : tWhile (tTest (tOp Wp.rNot0 (tVar i) (tC .non))) tb D σ H := by
  refine while_by Pv μ h0 (fun σ H p => ?_) (fun σ H Q Q' hq h => ?_)
  · obtain ⟨v, e, h⟩ := hs σ H p
    exact ⟨v, e, rfl, _, rfl, h⟩
  · obtain ⟨v, e, h0, k, e2, q⟩ := h
    exact ⟨v, e, h0, k, e2, hq _ _ q⟩
end Bk
set_option Elab.async false
set_option linter.all false
set_option maxRecDepth 100000
namespace Bk
open PySem PySem.Spec PyProof.Rows L2
/-- a text with a right side in the place of a left one -/
def usedS (t : Str) (place : Int) (l r : Str) : Str := cutS t none (some place) ++ r ++ cutS t (some (place + l.length)) none
theorem len_app (a b : Str) : (a ++ b).length = a.length + b.length := by
  rw [← len_cl, ← len_cl, ← len_cl, show cl (a ++ b) = cl a ++ cl b from TL.tl_append a b, List.length_append]
theorem cutS_le (t : Str) (lo hi : Option Int) : (cutS t lo hi).length ≤ t.length := by
  show (mkS _).length ≤ _
  rw [len_mk, List.length_take, List.length_drop]
  have := len_cl t
  show min _ ((cl t).length - _) ≤ _
  omega
theorem usedS_le (t : Str) (p : Int) (l r : Str) : (usedS t p l r).length ≤ 2 * t.length + r.length := by
  unfold usedS
  rw [len_app, len_app]
  have := cutS_le t none (some p)
  have := cutS_le t (some (p + l.length)) none
  omega
/-- the text of an overlap -/
def bothOf (l : Str) (p : Int) (o : Str) : Int := if (o.length : Int) < (l.length : Int) - p then (o.length : Int) else (l.length : Int) - p
def ovText (l : Str) (p : Int) (o : Str) : Option Str := if cutS l (some p) (some (p + bothOf l p o)) = cutS o none (some (bothOf l p o)) then some (l ++ cutS o (some (bothOf l p o)) none) else none
theorem ovText_le {l o z : Str} {p : Int} (h : ovText l p o = some z) : z.length ≤ l.length + o.length := by
  unfold ovText at h
  by_cases e : cutS l (some p) (some (p + bothOf l p o)) = cutS o none (some (bothOf l p o))
  · rw [if_pos e] at h
    cases h
    rw [len_app]
    have := cutS_le o (some (bothOf l p o)) none
    omega
  · rw [if_neg e] at h; cases h
/-- a list, known as its items ahead and one more -/
abbrev Ov := Str × Nat × Nat × Nat
def ovOk (n : Nat) (o : Ov) : Prop := o.1.length ≤ 8 ∧ o.2.1 < n ∧ o.2.2.1 ≤ 3 ∧ o.2.2.2 < n
abbrev ov5 (o : Ov) : PyData := .tuple [.int (o.1.length : Nat), .str o.1, .int (o.2.1 : Nat), .int (o.2.2.1 : Nat), .int (o.2.2.2 : Nat)]
theorem ov5_no (o : Ov) : Wp.noL (ov5 o) = true := by simp [ov5, Wp.noL, Wp.noLA]
theorem ov5s_no : ∀ os : List Ov, Wp.noLA (os.map ov5) = true
  | [] => rfl
  | o :: os => by
    show (Wp.noL (ov5 o) && Wp.noLA (os.map ov5)) = true
    rw [ov5_no, ov5s_no os]; rfl
theorem ov5_alike (os : List Ov) : PySem.W.AllAlike (os.map ov5) := fun d hd d' hd' => by
  obtain ⟨o, _, rfl⟩ := List.mem_map.mp hd
  obtain ⟨o', _, rfl⟩ := List.mem_map.mp hd'
  simp only [PySem.W.alike, PySem.W.alikeAll]; rfl
theorem ov5_sortable (os : List Ov) : PySem.W.Sortable (os.map ov5) := .inl fun d hd => by
  obtain ⟨o, _, rfl⟩ := List.mem_map.mp hd
  exact ⟨_, _, rfl⟩
theorem ov5_depth (o : Ov) : (ov5 o).depth ≤ 60 := by simp [PyData.depth, PyData.depthAll]
theorem dps_zip {K : PySem.W.Frag} {H : Hp} : ∀ {vs : List V} {ds : List PyData}, DpAll K H vs ds → ∀ p ∈ vs.zip ds, Dp K H p.1 p.2
  | _, _, .nil, p, hp => by cases hp
  | _, _, .cons r t, p, hp => by
    rcases List.mem_cons.mp hp with z | z
    · subst z; exact r
    · exact dps_zip t p z
theorem _root_.Wp.irng2 {σ : L2.St} {H : Hp} {ta : TA} {R : It → Hp → Prop} (h : ta σ H fun vs H1 => ∃ i j : Int, vs = [.int i, .int j] ∧ (-(2 ^ 62) ≤ i ∧ i < 2 ^ 62 ∧ -(2 ^ 62) ≤ j ∧ j < 2 ^ 62) ∧ R (Itr i (j - i).toNat) H1) : iRng2 ta σ H R := h
/-- overlaps found so far, in a list -/
structure FoundAt (K : PySem.W.Frag) (H : Hp) (F : Addr) (n : Nat) (m : Nat) : Prop where
  ex : ∃ (ws : List V) (os : List Ov), H F = some (.lst ws) ∧ DpAll K H ws (os.map ov5) ∧ (∀ o ∈ os, ovOk n o) ∧ os.length ≤ m
theorem FoundAt.same {K : PySem.W.Frag} {H H' : Hp} {F : Addr} {n m : Nat} (s : Same H H') (h : FoundAt K H F n m) : FoundAt K H' F n m := by
  obtain ⟨ws, os, h1, h2, h3, h4⟩ := h.ex
  exact ⟨ws, os, s _ _ h1, Wp.dps_same s _ _ h2, h3, h4⟩
theorem FoundAt.mono {K : PySem.W.Frag} {H : Hp} {F : Addr} {n m m' : Nat} (h : FoundAt K H F n m) (l : m ≤ m') : FoundAt K H F n m' := by
  obtain ⟨ws, os, h1, h2, h3, h4⟩ := h.ex
  exact ⟨ws, os, h1, h2, h3, Nat.le_trans h4 l⟩
theorem FoundAt.push {K : PySem.W.Frag} {H : Hp} {F T : Addr} {n m : Nat} {ws : List V} {os : List Ov} {o : Ov} (h1 : H F = some (.lst ws)) (h2 : DpAll K H ws (os.map ov5)) (h3 : ∀ o ∈ os, ovOk n o) (h4 : os.length ≤ m) (ho : ovOk n o) (hT : Dp K H (.ref T) (ov5 o)) :
    FoundAt K (upd H F (.lst (ws ++ [.ref T]))) F n (m + 1) := by
  refine ⟨_, os ++ [o], upd_same, ?_, fun x hx => ?_, by rw [List.length_append]; simp; omega⟩
  · rw [List.map_append]
    exact Wp.dps_append (Wp.dps_upd h1 _ _ (ov5s_no os) h2) (.cons (Wp.dp_upd h1 _ _ (ov5_no o) hT) .nil)
  · rcases List.mem_append.mp hx with z | z
    · exact h3 x z
    · rw [List.mem_singleton.mp z]; exact ho
end Bk
set_option Elab.async false
set_option linter.all false
set_option maxRecDepth 100000
namespace Bk
open PySem PySem.Spec PyProof.Rows L2
section
set_option maxRecDepth 100000 in
set_option maxHeartbeats 4000000 in
/-- xs.extend(t), t a tuple whatever else its object keeps -/
theorem ext_tup {l b : Addr} {its its2 : Array Value} {n n2 : Nat} {dd : Option Addr} {sl : Array (Option Value)} (h0 : ¬(!its.isEmpty && Builtin.List.listTooLong (its.size + its2.size)) = true) (h1 : its.size ≤ sizeLine) (h2 : its.size + its2.size ≤ sizeLine + 1) :
    Meets (Builtin.«list.extend» ⟨[.ref l, .ref b], []⟩) (fun _ R s => s.heap.get? l = some { cls := .type "list", data := .seq its n } ∧ s.heap.get? b = some { cls := .type "tuple", dict := dd, data := .seq its2 n2, slots := sl } ∧
      R (.ok (.ret .none)) { s with heap := s.heap.update l (Obj.mapSeq fun x => x ++ its2) }) :=
  .of_wp fun prog w A R s h => by
    obtain ⟨hp, gg, dr, tk, os⟩ := s
    obtain ⟨hl, hb, h⟩ := h
    have g1 := PySem.AutoSeq1.idx_int
    have g2 := PySem.AutoSeq1.sub_tuple_tuple
    have g3 := PySem.AutoSeq1.sub_list_list
    have g4 := PySem.AutoSeq1.sub_tuple_list
    have g5 := PySem.AutoSeq1.sub_list_tuple
    have hz : (its ++ its2).size ≤ sizeLine + 1 := by rw [Array.size_append]; exact h2
    wp_walk using (wpAny_updateSeq hl rfl (hz := h1) (_hz' := hz)), PySem.AutoSeq1.wpAny_loadPart' hl, PySem.AutoSeq1.wpAny_loadPart' hb
    exact ⟨_, rfl, h⟩
end
/-- a list is extended by a list or by a tuple -/
def rExtU (K : PySem.W.Frag) : V → List V → Hp → VK → Prop := fun x vs H Q => rExtend x vs H Q ∨ ∃ l b xs zs, x = .ref l ∧ vs = [.ref b] ∧ H l = some (.lst xs) ∧ SqT K H b zs ∧ xs.length + zs.length ≤ sizeLine ∧ Q .non (upd H l (.lst (xs ++ zs)))
theorem mt_extT {X : Cx} : MtM X "list.extend" (fun x vs H Q => ∃ l b xs zs, x = .ref l ∧ vs = [.ref b] ∧ H l = some (.lst xs) ∧ SqT X.K H b zs ∧ xs.length + zs.length ≤ sizeLine ∧ Q .non (upd H l (.lst (xs ++ zs)))) := by
  rintro pins s σ H x vs v us Q I rx rv ⟨l, b, xs, zs, rfl, rfl, hH, hB, hz, q⟩
  cases rx
  obtain ⟨u, rfl, ru⟩ := rv.one
  cases ru
  obtain ⟨zl, its, n, r, hl, e⟩ := I.lstM hH
  obtain ⟨its2, r2, ⟨o2, ho2, hc2, n2, hd2⟩, hz2⟩ := I.tuple hB
  have hl2 := r2.length
  obtain ⟨cc, dd, da, sl⟩ := o2
  cases hc2; cases hd2
  have hsz : its.toArray.size + its2.toArray.size ≤ sizeLine := by simp only [List.size_toArray]; omega
  have hlong : ¬ (!its.toArray.isEmpty && Builtin.List.listTooLong (its.toArray.size + its2.toArray.size)) = true := by simp [notLongL (show its.length + its2.length ≤ sizeLine by omega)]
  refine call_meets F.slot_list_extend ⟨_, e, rfl⟩ F.entry_list_extend (F.args_list_extend_2 _ _) (ext_tup (b := b) (dd := dd) (sl := sl) (n2 := n2) hlong (by simp only [List.size_toArray] at hsz ⊢; omega) (by omega)) ⟨e, ho2, ?_⟩
  exact ⟨.non, _, I.lset (its' := its ++ its2) hH e (by simp) (r.append r2) (by rw [List.length_append]; omega), rfl, q⟩
theorem mt_extU {X : Cx} {K : PySem.W.Frag} (hK : X.K = K := by rfl) : MtR X "list.extend" (rExtU K) := by
  subst hK
  exact MtR.or mt_extend mt_extT
theorem extL {K : PySem.W.Frag} {l b : Addr} {xs zs : List V} {H : Hp} {Q : VK} (h1 : H l = some (.lst xs)) (h2 : H b = some (.lst zs)) (hz : xs.length + zs.length ≤ 100000) (q : Q .non (upd H l (.lst (xs ++ zs)))) : rExtU K (.ref l) [.ref b] H Q := .inl ⟨l, b, xs, zs, rfl, rfl, h1, h2, Nat.le_trans hz (by decide), q⟩
theorem extT {K : PySem.W.Frag} {l b : Addr} {xs zs : List V} {H : Hp} {Q : VK} (h1 : H l = some (.lst xs)) (h2 : SqT K H b zs) (hz : xs.length + zs.length ≤ 100000) (q : Q .non (upd H l (.lst (xs ++ zs)))) : rExtU K (.ref l) [.ref b] H Q := .inr ⟨l, b, xs, zs, rfl, rfl, h1, h2, Nat.le_trans hz (by decide), q⟩
theorem wc_sortedI {X : Cx} {K : PySem.W.Frag} (hK : X.K = K := by rfl) : CallR X (.builtin "sorted") (rSortedI K) := by subst hK; exact cr_sortedI
theorem catT {K : PySem.W.Frag} {a b : Addr} {xs ys : List V} {H : Hp} {Q : VK} (s : SqT K H a xs) (t : SqT K H b ys) (hz : xs.length + ys.length ≤ 1000) (h : ∀ q H', Same H H' → SqT K H' q (xs ++ ys) → Q (.ref q) H') : Wp.rAddU K (.ref a) (.ref b) H Q := by
  refine Wp.addT ⟨a, b, xs, ys, rfl, rfl, s, t, Nat.le_of_lt (small1000 hz), (fun z => ?_), (fun _ z => ?_), fun _ _ q hq => h q _ (Wp.same_upd hq) (SqT.of upd_same)⟩
  · subst z
    exact h b H (Same.refl _) t
  · subst z
    exact h a H (Same.refl _) (by rw [List.append_nil]; exact s)
/-! the numbers of a left side -/
def numsFrom : Nat → List (Str × Str) → Str → List Nat
  | _, [], _ => []
  | i, (l, _) :: t, x => if l = x then i :: numsFrom (i + 1) t x else numsFrom (i + 1) t x
abbrev numsOf (rs : List (Str × Str)) (x : Str) : List Nat := numsFrom 0 rs x
theorem numsFrom_snoc {l r x : Str} : ∀ {rs : List (Str × Str)} {i : Nat}, numsFrom i (rs ++ [(l, r)]) x = numsFrom i rs x ++ if l = x then [i + rs.length] else []
  | [], i => by
    show (if l = x then i :: [] else []) = [] ++ if l = x then [i + 0] else []
    rfl
  | (a, b) :: rs, i => by
    show (if a = x then i :: numsFrom (i + 1) (rs ++ [(l, r)]) x else numsFrom (i + 1) (rs ++ [(l, r)]) x) = (if a = x then i :: numsFrom (i + 1) rs x else numsFrom (i + 1) rs x) ++ if l = x then [i + (rs.length + 1)] else []
    rw [numsFrom_snoc, show i + 1 + rs.length = i + (rs.length + 1) by omega]
    by_cases h : a = x
    · rw [if_pos h, if_pos h]; rfl
    · rw [if_neg h, if_neg h]
theorem numsFrom_mem {x : Str} {k : Nat} : ∀ {rs : List (Str × Str)} {i : Nat}, k ∈ numsFrom i rs x ↔ i ≤ k ∧ ∃ r, rs[k - i]? = some (x, r)
  | [], i => by simp [numsFrom]
  | (a, b) :: rs, i => by
    have ih := @numsFrom_mem x k rs (i + 1)
    show k ∈ (if a = x then i :: numsFrom (i + 1) rs x else numsFrom (i + 1) rs x) ↔ _
    have split : (i ≤ k ∧ ∃ r, ((a, b) :: rs)[k - i]? = some (x, r)) ↔ (k = i ∧ a = x) ∨ (i + 1 ≤ k ∧ ∃ r, rs[k - (i + 1)]? = some (x, r)) := by
      constructor
      · rintro ⟨h1, r, h2⟩
        rcases Nat.eq_or_lt_of_le h1 with e | e
        · subst e
          rw [Nat.sub_self] at h2
          simp at h2
          exact .inl ⟨rfl, h2.1⟩
        · rw [show k - i = (k - (i + 1)) + 1 by omega] at h2
          exact .inr ⟨e, r, by simpa using h2⟩
      · rintro (⟨rfl, rfl⟩ | ⟨h1, r, h2⟩)
        · exact ⟨Nat.le_refl _, b, by simp⟩
        · refine ⟨by omega, r, ?_⟩
          rw [show k - i = (k - (i + 1)) + 1 by omega]
          simpa using h2
    rw [split]
    by_cases h : a = x
    · rw [if_pos h, List.mem_cons, ih]
      exact ⟨fun z => z.elim (fun e => .inl ⟨e, h⟩) .inr, fun z => z.elim (fun e => .inl e.1) .inr⟩
    · rw [if_neg h, ih]
      exact ⟨.inr, fun z => z.elim (fun e => absurd e.2 h) id⟩
theorem numsOf_mem {x : Str} {k : Nat} {rs : List (Str × Str)} : k ∈ numsOf rs x ↔ ∃ r, rs[k]? = some (x, r) := by
  rw [numsFrom_mem]; simp
theorem numsFrom_up {x : Str} : ∀ {rs : List (Str × Str)} {i : Nat}, (numsFrom i rs x).Pairwise (· < ·)
  | [], _ => .nil
  | (a, b) :: rs, i => by
    show (if a = x then i :: numsFrom (i + 1) rs x else numsFrom (i + 1) rs x).Pairwise (· < ·)
    by_cases h : a = x
    · rw [if_pos h]
      exact List.pairwise_cons.mpr ⟨fun k hk => by have := (numsFrom_mem.mp hk).1; omega, numsFrom_up⟩
    · rw [if_neg h]; exact numsFrom_up
theorem numsFrom_len {x : Str} : ∀ {rs : List (Str × Str)} {i : Nat}, (numsFrom i rs x).length ≤ rs.length
  | [], _ => Nat.le_refl _
  | (a, b) :: rs, i => by
    show (if a = x then i :: numsFrom (i + 1) rs x else numsFrom (i + 1) rs x).length ≤ rs.length + 1
    have := @numsFrom_len x rs (i + 1)
    by_cases h : a = x
    · rw [if_pos h, List.length_cons]; omega
    · rw [if_neg h]; omega
def nv (n : Nat) : V := .int (n : Nat)
def RelN (K : PySem.W.Frag) (H : Hp) : Option V → List Nat → Prop
  | none, ns => ns = []
  | some v, ns => ∃ b, v = .ref b ∧ SqT K H b (ns.map nv)
structure NumsAt (K : PySem.W.Frag) (H : Hp) (d : Addr) (rs : List (Str × Str)) : Prop where
  ex : ∃ kvs : List (Key × V), H d = some (.dK kvs) ∧ kvs.length ≤ rs.length ∧ ∀ x, RelN K H (valV kvs (Sum.inr x)) (numsOf rs x)
theorem RelN.same {K : PySem.W.Frag} {H H' : Hp} (s : ∀ b xs, SqT K H b xs → SqT K H' b xs) : ∀ {o : Option V} {ns : List Nat}, RelN K H o ns → RelN K H' o ns
  | none, _, h => h
  | some _, _, ⟨b, e, h⟩ => ⟨b, e, s _ _ h⟩
theorem NumsAt.same {K : PySem.W.Frag} {H H' : Hp} {d : Addr} {rs : List (Str × Str)} (s : Same H H') (h : NumsAt K H d rs) : NumsAt K H' d rs := by
  obtain ⟨kvs, h1, h2, h3⟩ := h.ex
  exact ⟨kvs, s _ _ h1, h2, fun x => (h3 x).same fun b xs e => Wp.sameT s e⟩
/-! the steps of a text at a place -/
def fitsAt (rs : List (Str × Str)) (t : List Nat) (place : Nat) : List Nat := (List.range rs.length).filter fun k => match rs[k]? with
  | some (l, _) => (cl l).isPrefixOf (t.drop place)
  | none => false
def stepsL (rs : List (Str × Str)) (t : List Nat) : List (Nat × Nat) := (List.range t.length).flatMap fun p => (fitsAt rs t p).map fun k => (p, k)
theorem nums_put {K : PySem.W.Frag} {H : Hp} {d T : Addr} {kvs : List (Key × V)} {rs : List (Str × Str)} {l r : Str} (hd : H d = some (.dK kvs)) (hl : kvs.length ≤ rs.length) (h : ∀ x, RelN K H (valV kvs (Sum.inr x)) (numsOf rs x)) (hT : SqT K H T ((numsOf rs l ++ [rs.length]).map nv)) :
    NumsAt K (upd H d (.dK (putK kvs (Sum.inr l) (.ref T)))) d (rs ++ [(l, r)]) := by
  have hk : ∀ b xs, SqT K H b xs → SqT K (upd H d (.dK (putK kvs (Sum.inr l) (.ref T)))) b xs := fun b xs e => by
    rcases e with (e | ⟨u, e⟩) | e
    · exact .inl (.inl (by rw [upd_ne (ne_of e hd (by intro z; cases z))]; exact e))
    · exact .inl (.inr ⟨u, by rw [upd_ne (ne_of e hd (by intro z; cases z))]; exact e⟩)
    · exact .inr e
  refine ⟨_, upd_same, ?_, fun x => ?_⟩
  · have := length_putK kvs (Sum.inr l) (V.ref T)
    rw [List.length_append]; simp; omega
  · rw [valV_put]
    show RelN K _ _ (numsFrom 0 (rs ++ [(l, r)]) x)
    rw [numsFrom_snoc, Nat.zero_add]
    by_cases hx : x = l
    · subst hx
      rw [if_pos rfl, if_pos rfl]
      exact ⟨T, rfl, hk _ _ hT⟩
    · rw [if_neg (fun z => hx (Sum.inr.inj z)), if_neg (fun z => hx z.symm), List.append_nil]
      exact (h x).same hk
/-- the pieces of lengths 1 to m at a place, each with its rules' numbers -/
def piecesN (rs : List (Str × Str)) (t : List Nat) (p : Nat) (m : Nat) : List Nat := (List.range m).flatMap fun s => numsOf rs (mkS ((t.drop p).take (s + 1)))
theorem piecesN_succ {rs : List (Str × Str)} {t : List Nat} {p m : Nat} : piecesN rs t p (m + 1) = piecesN rs t p m ++ numsOf rs (mkS ((t.drop p).take (m + 1))) := by
  unfold piecesN
  rw [List.range_succ, List.flatMap_append]; simp
theorem piecesN_len {rs : List (Str × Str)} {t : List Nat} {p : Nat} : ∀ m, (piecesN rs t p m).length ≤ m * rs.length
  | 0 => by simp [piecesN]
  | m + 1 => by
    rw [piecesN_succ, List.length_append, Nat.succ_mul]
    have h1 := @piecesN_len rs t p m
    have h2 : (numsOf rs (mkS ((t.drop p).take (m + 1)))).length ≤ rs.length := numsFrom_len
    omega
theorem piecesN_mem {rs : List (Str × Str)} {t : List Nat} {p m k : Nat} : k ∈ piecesN rs t p m ↔ ∃ s, s < m ∧ ∃ r, rs[k]? = some (mkS ((t.drop p).take (s + 1)), r) := by
  unfold piecesN
  rw [List.mem_flatMap]
  constructor
  · rintro ⟨s, hs, hk⟩
    exact ⟨s, List.mem_range.mp hs, numsOf_mem.mp hk⟩
  · rintro ⟨s, hs, hk⟩
    exact ⟨s, List.mem_range.mpr hs, numsOf_mem.mpr hk⟩
theorem piecesN_nodup {rs : List (Str × Str)} {t : List Nat} {p : Nat} : ∀ {m : Nat}, m ≤ t.length - p → (piecesN rs t p m).Nodup
  | 0, _ => by simp [piecesN]
  | m + 1, h => by
    rw [piecesN_succ]
    refine List.nodup_append.mpr ⟨piecesN_nodup (by omega), (numsFrom_up (rs := rs)).imp (fun h => Nat.ne_of_lt h), fun a ha b hb e => ?_⟩
    subst e
    obtain ⟨s, hs, r, h1⟩ := piecesN_mem.mp ha
    obtain ⟨r', h2⟩ := numsOf_mem.mp hb
    rw [h1] at h2
    have e := congrArg (fun z => (cl z).length) (Prod.mk.inj (Option.some.inj h2)).1
    simp only [cl_mk, List.length_take, List.length_drop] at e
    omega
theorem fitsAt_mem {rs : List (Str × Str)} {t : List Nat} {p k : Nat} : k ∈ fitsAt rs t p ↔ ∃ l r, rs[k]? = some (l, r) ∧ (cl l) <+: t.drop p := by
  unfold fitsAt
  rw [List.mem_filter, List.mem_range]
  constructor
  · rintro ⟨h1, h2⟩
    rw [List.getElem?_eq_getElem h1] at h2 ⊢
    exact ⟨_, _, rfl, List.isPrefixOf_iff_prefix.mp h2⟩
  · rintro ⟨l, r, h1, h2⟩
    refine ⟨(List.getElem?_eq_some_iff.mp h1).1, ?_⟩
    rw [h1]
    exact List.isPrefixOf_iff_prefix.mpr h2
theorem fitsAt_up {rs : List (Str × Str)} {t : List Nat} {p : Nat} : (fitsAt rs t p).Pairwise (· < ·) := List.Pairwise.filter _ List.pairwise_lt_range
/-- two ascending lists with the same members are one -/
theorem up_eq : ∀ {a b : List Nat}, a.Pairwise (· < ·) → b.Pairwise (· < ·) → (∀ k, k ∈ a ↔ k ∈ b) → a = b
  | [], [], _, _, _ => rfl
  | [], y :: ys, _, _, h => absurd ((h y).mpr List.mem_cons_self) (by simp)
  | x :: xs, [], _, _, h => absurd ((h x).mp List.mem_cons_self) (by simp)
  | x :: xs, y :: ys, ha, hb, h => by
    obtain ⟨ha1, ha2⟩ := List.pairwise_cons.mp ha
    obtain ⟨hb1, hb2⟩ := List.pairwise_cons.mp hb
    have hxy : x = y := by
      rcases List.mem_cons.mp ((h x).mp List.mem_cons_self) with e | e
      · exact e
      · rcases List.mem_cons.mp ((h y).mpr List.mem_cons_self) with e2 | e2
        · exact e2.symm
        · have := hb1 x e
          have := ha1 y e2
          omega
    subst hxy
    congr 1
    refine up_eq ha2 hb2 fun k => ⟨fun hk => ?_, fun hk => ?_⟩
    · rcases List.mem_cons.mp ((h k).mp (List.mem_cons_of_mem _ hk)) with e | e
      · have := ha1 k hk; omega
      · exact e
    · rcases List.mem_cons.mp ((h k).mpr (List.mem_cons_of_mem _ hk)) with e | e
      · have := hb1 k hk; omega
      · exact e
theorem pieces_fit {rs : List (Str × Str)} (g : Good rs) {t : List Nat} {p k m : Nat} (hm : m = min 4 (t.length - p)) : k ∈ piecesN rs t p m ↔ k ∈ fitsAt rs t p := by
  rw [piecesN_mem, fitsAt_mem]
  constructor
  · rintro ⟨s, hs, r, h⟩
    refine ⟨_, _, h, ?_⟩
    rw [cl_mk]
    exact List.take_prefix _ _
  · rintro ⟨l, r, h1, h2⟩
    obtain ⟨g1, g2, g3⟩ := g _ (List.mem_of_getElem? h1)
    simp only at g1 g2 g3
    have hl := h2.length_le
    rw [List.length_drop, len_cl] at hl
    refine ⟨l.length - 1, by omega, r, ?_⟩
    rw [h1]
    have e : cl l = (t.drop p).take (l.length - 1 + 1) := by
      rw [show l.length - 1 + 1 = (cl l).length by rw [len_cl]; omega]
      exact (List.prefix_iff_eq_take.mp h2)
    rw [← e, mk_cl]
/-- what sorting makes of the numbers of the pieces -/
theorem sorted_fit {rs : List (Str × Str)} (g : Good rs) {t : List Nat} {p m : Nat} {ns' : List Int} (hm : m = min 4 (t.length - p)) (hp : ns'.Perm ((piecesN rs t p m).map fun k => ((k : Nat) : Int))) (hs : ns'.Pairwise (· ≤ ·)) : ns' = (fitsAt rs t p).map fun k => ((k : Nat) : Int) := by
  have hnn : ∀ z ∈ ns', 0 ≤ z := fun z hz => by
    obtain ⟨k, _, rfl⟩ := List.mem_map.mp (hp.mem_iff.mp hz)
    omega
  have e0 : ns' = (ns'.map Int.toNat).map fun k => ((k : Nat) : Int) := by
    rw [List.map_map]
    conv => lhs; rw [← List.map_id ns']
    refine List.map_congr_left fun z hz => ?_
    show z = ((z.toNat : Nat) : Int)
    have := hnn z hz
    omega
  have hp2 : (ns'.map Int.toNat).Perm (piecesN rs t p m) := by
    have := hp.map Int.toNat
    rw [List.map_map] at this
    have e : (piecesN rs t p m).map (Int.toNat ∘ fun k => ((k : Nat) : Int)) = piecesN rs t p m := by
      conv => rhs; rw [← List.map_id (piecesN rs t p m)]
      exact List.map_congr_left fun k _ => by simp
    rw [e] at this
    exact this
  have hnd : (ns'.map Int.toNat).Nodup := hp2.nodup_iff.mpr (piecesN_nodup (by omega))
  have hle : (ns'.map Int.toNat).Pairwise (· ≤ ·) := List.pairwise_map.mpr (hs.imp fun h => Int.toNat_le_toNat h)
  have hlt : (ns'.map Int.toNat).Pairwise (· < ·) := (hle.and hnd).imp fun h => Nat.lt_of_le_of_ne h.1 h.2
  rw [e0, up_eq hlt fitsAt_up fun k => (hp2.mem_iff).trans (pieces_fit g hm)]
end Bk
set_option Elab.async false
set_option linter.all false
set_option maxRecDepth 100000
namespace Bk
open PySem PySem.Spec PyProof.Rows L2
/-- repr of rows of data, of a text, of a number, of None -/
def rReprU (K : PySem.W.Frag) : List V → Hp → VK → Prop := fun xs H Q => Wp.rRepr K xs H Q ∨ (∃ z, xs = [.str z] ∧ (reprText z).length ≤ sizeLine ∧ Q (.str (reprText z)) H) ∨ (∃ i, xs = [.int i] ∧ i.natAbs.log2 < 1920 ∧ Q (.str (toString i)) H) ∨ (xs = [.non] ∧ Q (.str "None") H)
theorem wc_reprU {X : Cx} {K : PySem.W.Frag} (hg : X.A.guards = some []) (hu : X.A.units + 65 < cLine) (hK : X.K = K := by rfl) : CallR X (.builtin "repr") (rReprU K) := by
  intro pins s σ H xs us Q I r h
  rcases h with h | ⟨z, rfl, hz, q⟩ | ⟨i, rfl, hz, q⟩ | ⟨rfl, q⟩
  · exact Wp.wc_repr hg hu hK pins s σ H xs us Q I r h
  · obtain ⟨u, rfl, t, rfl⟩ := vals1 r
    exact PySem.P.repr_of_str ⟨.str _, H, I.tok _, ⟨_, rfl⟩, q⟩ hz
  · obtain ⟨u, rfl, t, rfl⟩ := vals1 r
    exact PySem.P.repr_of_int hz ⟨.str _, H, I.tok _, ⟨_, rfl⟩, q⟩
  · obtain ⟨u, rfl, ru⟩ := vals1 r
    cases ru
    exact PySem.P.repr_of_none ⟨.str _, H, I.tok _, ⟨_, rfl⟩, q⟩
/-- the rules up to a number that fit at a place -/
def fitB (rs : List (Str × Str)) (t : List Nat) (p k : Nat) : Bool := match rs[k]? with
  | some (l, _) => (cl l).isPrefixOf (t.drop p)
  | none => false
def fitsTo (rs : List (Str × Str)) (t : List Nat) (p j : Nat) : List Nat := (List.range j).filter (fitB rs t p)
end Bk
set_option Elab.async false
set_option linter.all false
set_option maxRecDepth 100000
namespace Wp
open PySem PySem.Spec PyProof.Rows L2
theorem passX0 {X : Cx} : Passes (L2.CX X.prog X.w) X (fun _ _ _ => False) := fun _ _ _ _ _ _ _ h => by
  obtain ⟨_, _, _, _, _, _, _, _, _, _, _, _, z⟩ := h
  exact z.elim
theorem depthAll_le {n : Nat} : ∀ {ds : List PyData}, (∀ d ∈ ds, d.depth ≤ n) → PyData.depthAll ds ≤ n
  | [], _ => by simp [PyData.depthAll]
  | d :: ds, h => by
    rw [PyData.depthAll]
    exact Nat.max_le.mpr ⟨h d List.mem_cons_self, depthAll_le fun e he => h e (List.mem_cons_of_mem _ he)⟩
theorem canLayAll_of : ∀ {ds : List PyData}, (∀ d ∈ ds, d.canLay0 = true) → PyData.canLayAll0 ds = true
  | [], _ => by simp [PyData.canLayAll0]
  | d :: ds, h => by
    rw [PyData.canLayAll0, h d List.mem_cons_self, canLayAll_of fun e he => h e (List.mem_cons_of_mem _ he)]; rfl
theorem showableAll_of : ∀ {ds : List PyData}, (∀ d ∈ ds, d.showable = true) → PyData.showableAll ds = true
  | [], _ => by simp [PyData.showableAll]
  | d :: ds, h => by
    rw [PyData.showableAll, h d List.mem_cons_self, showableAll_of fun e he => h e (List.mem_cons_of_mem _ he)]; rfl
theorem weightAll_le {c : Nat} : ∀ {ds : List PyData}, (∀ d ∈ ds, d.weight + 1 ≤ c) → PyData.weightAll ds ≤ ds.length * c
  | [], _ => by simp [PyData.weightAll]
  | d :: ds, h => by
    have h1 := h d List.mem_cons_self
    have h2 := weightAll_le fun e he => h e (List.mem_cons_of_mem _ he)
    rw [PyData.weightAll, List.length_cons, Nat.succ_mul]
    omega
/-- small data, ready to be shown -/
structure Shw (n c : Nat) (d : PyData) : Prop where
  l : d.canLay0 = true
  s : d.showable = true
  i : d.intsShort 13 = true
  dp : d.depth ≤ n
  w : d.weight ≤ c
theorem Shw.int {i : Int} (h0 : 0 ≤ i) (h1 : i ≤ 80) : Shw 0 8 (.int i) := by
  obtain ⟨k, rfl⟩ := Int.eq_ofNat_of_zero_le h0
  have h : ∀ k : Fin 81, PyData.showable (.int ((k.val : Nat) : Int)) = true ∧ PyData.intsShort 13 (.int ((k.val : Nat) : Int)) = true ∧ PyData.weight (.int ((k.val : Nat) : Int)) ≤ 8 := by decide +kernel
  obtain ⟨a, b, c⟩ := h ⟨k, by omega⟩
  exact ⟨by simp [PyData.canLay0], a, b, by simp [PyData.depth], c⟩
theorem Shw.tup {n c : Nat} {ds : List PyData} (h : ∀ d ∈ ds, Shw n c d) : Shw (n + 1) (ds.length * (c + 1)) (.tuple ds) := by
  refine ⟨?_, ?_, ?_, ?_, ?_⟩
  · rw [PyData.canLay0]; exact canLayAll_of fun d hd => (h d hd).l
  · rw [PyData.showable]; exact showableAll_of fun d hd => (h d hd).s
  · rw [PyData.intsShort]; exact intsShortAll_of fun d hd => (h d hd).i
  · have := depthAll_le fun d hd => (h d hd).dp
    rw [PyData.depth]; omega
  · rw [PyData.weight]; exact weightAll_le fun d hd => by have := (h d hd).w; omega
theorem Shw.mono {n c m e : Nat} {d : PyData} (h : Shw n c d) (h1 : n ≤ m) (h2 : c ≤ e) : Shw m e d := ⟨h.l, h.s, h.i, Nat.le_trans h.dp h1, Nat.le_trans h.w h2⟩
theorem Shw.all {n c : Nat} {d : PyData} (h : Shw n c d) (h1 : n ≤ 60) (h2 : c ≤ 1048576) : d.showable = true ∧ d.hasDict = false ∧ d.depth ≤ 60 ∧ d.shown.length ≤ sizeLine := by
  refine ⟨h.s, PyData.hasDict_of_canLay d h.l, Nat.le_trans h.dp h1, ?_⟩
  have hd := h.dp
  have hw := h.w
  have hl : PyData.layable0 d = true := by
    unfold PyData.layable0
    rw [h.l, decide_eq_true (by omega), decide_eq_true (by omega)]; rfl
  have h3 := shown_le13 hl h.i
  have e : sizeLine = 16777216 := by decide
  omega
theorem Shw.str {z : Str} (h : PyData.strOk z = true) (hl : z.length ≤ 1000) : Shw 0 1100 (.str z) := by
  refine ⟨?_, by simp [PyData.showable], by simp [PyData.intsShort], by simp [PyData.depth], ?_⟩
  · rw [PyData.canLay0]; exact h
  · rw [PyData.weight]
    have : z.cps.size = z.length := rfl
    omega
theorem Shw.lst {n c : Nat} {ds : List PyData} (h : ∀ d ∈ ds, Shw n c d) : Shw (n + 1) (ds.length * (c + 1)) (.list ds) := by
  refine ⟨?_, ?_, ?_, ?_, ?_⟩
  · rw [PyData.canLay0]; exact canLayAll_of fun d hd => (h d hd).l
  · rw [PyData.showable]; exact showableAll_of fun d hd => (h d hd).s
  · rw [PyData.intsShort]; exact intsShortAll_of fun d hd => (h d hd).i
  · have := depthAll_le fun d hd => (h d hd).dp
    rw [PyData.depth]; omega
  · rw [PyData.weight]; exact weightAll_le fun d hd => by have := (h d hd).w; omega
/-- repr of a text of signs -/
theorem reprS {K : PySem.W.Frag} {z : Str} {H : Hp} {Q : VK} (h : PyData.strOk z = true) (hl : z.length ≤ 1000) (q : Q (.str (reprText z)) H) : Bk.rReprU K [.str z] H Q := by
  refine .inr (.inl ⟨z, rfl, ?_, q⟩)
  have h1 : PyData.layable0 (.str z) = true := by
    have e := Shw.str h hl
    unfold PyData.layable0
    rw [e.l, decide_eq_true (by have := e.dp; omega), decide_eq_true (by have := e.w; omega)]; rfl
  exact fits_repr_of_layable h1
theorem reprD {K : PySem.W.Frag} {a : Addr} {d : PyData} {n c : Nat} {H : Hp} {Q : VK} (hd : Dp K H (.ref a) d) (h : Shw n c d) (h1 : n ≤ 60) (h2 : c ≤ 1048576) (q : Q (.str d.shown) H) : Bk.rReprU K [.ref a] H Q := by
  obtain ⟨w1, w2, w3, w4⟩ := h.all h1 h2
  exact .inl ⟨a, d, rfl, hd, w1, w2, w3, w4, q⟩
theorem make_ {C : Addr} {sp : Sp} {dvs : List V} {E : XK} {t : TA} {σ : L2.St} {H : Hp} {Q : VK} (h : t σ H fun vs H1 => ∀ x dx, H1 x = none → H1 dx = none → dx ≠ x → sp (.ref x :: (vs ++ dvs)) (upd (upd H1 dx (.own x)) x (.ins C dx [])) (fun v H2 => v = .non ∧ Q (.ref x) H2) E) : tMake C sp dvs E t σ H Q := h
end Wp
set_option Elab.async false
set_option linter.all false
set_option maxRecDepth 100000
namespace Bk
open PySem PySem.Spec PyProof.Rows L2
/-! the first rule that fits a pile: the least number among the left sides that end it -/
theorem firstFrom_le {x y : Str} : ∀ {rs : List (Str × Str)} {i j : Nat}, rs[j]? = some (x, y) → ∃ n r, firstFrom i rs x = some (n, r) ∧ n ≤ i + j
  | [], _, _, h => by simp at h
  | (a, b) :: rs, i, j, h => by
    show ∃ n r, (if a = x then some (i, b) else firstFrom (i + 1) rs x) = some (n, r) ∧ n ≤ i + j
    by_cases e : a = x
    · rw [if_pos e]; exact ⟨_, _, rfl, by omega⟩
    · rw [if_neg e]
      cases j with
      | zero =>
        simp at h
        exact absurd h.1 e
      | succ j =>
        obtain ⟨n, r, h1, h2⟩ := firstFrom_le (i := i + 1) (j := j) (rs := rs) (x := x) (y := y) (by simpa using h)
        exact ⟨n, r, h1, by omega⟩
theorem step_le {rs : List (Str × Str)} {tail : List Nat} {k : Nat} {b : Option (Nat × Str × Str)} : (∀ n0 x0, b = some (n0, x0) → ∃ n x, stepFit rs tail b k = some (n, x) ∧ n ≤ n0) ∧
    ∀ m y, firstOf rs (mkS (tail.drop k)) = some (m, y) → ∃ n x, stepFit rs tail b k = some (n, x) ∧ n ≤ m := by
  unfold stepFit
  cases hf : firstOf rs (mkS (tail.drop k)) with
  | none => exact ⟨fun n0 x0 e => ⟨n0, x0, e, Nat.le_refl _⟩, fun m y e => (nomatch e)⟩
  | some q =>
    obtain ⟨m0, y0⟩ := q
    cases b with
    | none => exact ⟨fun n0 x0 e => (nomatch e), fun m y e => (by cases e; exact ⟨_, _, rfl, Nat.le_refl _⟩)⟩
    | some q =>
      obtain ⟨m2, x2, y2⟩ := q
      simp only
      by_cases h : m0 < m2
      · rw [if_pos h]
        exact ⟨fun n0 x0 e => (by cases e; exact ⟨_, _, rfl, by omega⟩), fun m y e => (by cases e; exact ⟨_, _, rfl, Nat.le_refl _⟩)⟩
      · rw [if_neg h]
        exact ⟨fun n0 x0 e => (by cases e; exact ⟨_, _, rfl, Nat.le_refl _⟩), fun m y e => (by cases e; exact ⟨_, _, rfl, by omega⟩)⟩
theorem fold_le {rs : List (Str × Str)} {tail : List Nat} : ∀ (ks : List Nat) (b : Option (Nat × Str × Str)), (∀ n0 x0, b = some (n0, x0) → ∃ n x, ks.foldl (stepFit rs tail) b = some (n, x) ∧ n ≤ n0) ∧
    ∀ k ∈ ks, ∀ m y, firstOf rs (mkS (tail.drop k)) = some (m, y) → ∃ n x, ks.foldl (stepFit rs tail) b = some (n, x) ∧ n ≤ m
  | [], b => ⟨fun n0 x0 e => ⟨n0, x0, e, Nat.le_refl _⟩, fun k hk => by cases hk⟩
  | k :: ks, b => by
    obtain ⟨h1, h2⟩ := fold_le (rs := rs) (tail := tail) ks (stepFit rs tail b k)
    obtain ⟨s1, s2⟩ := step_le (rs := rs) (tail := tail) (k := k) (b := b)
    refine ⟨fun n0 x0 e => ?_, fun k' hk' m y e => ?_⟩
    · obtain ⟨n, x, e1, l1⟩ := s1 _ _ e
      obtain ⟨n2, x2, e2, l2⟩ := h1 _ _ e1
      exact ⟨n2, x2, e2, by omega⟩
    · rcases List.mem_cons.mp hk' with rfl | hk'
      · obtain ⟨n, x, e1, l1⟩ := s2 _ _ e
        obtain ⟨n2, x2, e2, l2⟩ := h1 _ _ e1
        exact ⟨n2, x2, e2, by omega⟩
      · exact h2 _ hk' _ _ e
/-- whether a text ends a pile -/
def ends (p : List Nat) (l : Str) : Bool := decide (l.length ≤ p.length ∧ p.drop (p.length - l.length) = cl l)
theorem fit_ends {rs : List (Str × Str)} (g : Good rs) {p : List Nat} {n : Nat} {l r : Str} (h : fit rs (last4 p) = some (n, l, r)) : rs[n]? = some (l, r) ∧ ends p l = true := by
  obtain ⟨h1, k, h2⟩ := fit_ok h
  obtain ⟨_, _, _, _, h3⟩ := fit_len g h
  refine ⟨h1, decide_eq_true ⟨h3, ?_⟩⟩
  have e := congrArg List.length h2
  rw [len_cl, List.length_drop, List.length_drop] at e
  rw [h2, List.drop_drop]
  congr 1
  omega
theorem fit_first {rs : List (Str × Str)} (g : Good rs) {p : List Nat} {m : Nat} {l r : Str} (h : rs[m]? = some (l, r)) (he : ends p l = true) : ∃ n x, fit rs (last4 p) = some (n, x) ∧ n ≤ m := by
  obtain ⟨a1, a2, a3⟩ := g _ (List.mem_of_getElem? h)
  simp only at a1 a2 a3
  obtain ⟨h1, h2⟩ := of_decide_eq_true he
  have hl4 : (last4 p).length = p.length - (p.length - 4) := List.length_drop
  have hd : (last4 p).drop ((last4 p).length - l.length) = cl l := by
    rw [← h2, hl4, List.drop_drop]
    congr 1
    omega
  obtain ⟨n, y, e, le⟩ := firstFrom_le (i := 0) h
  refine (fold_le (rs := rs) (tail := last4 p) (List.range (last4 p).length) none).2 ((last4 p).length - l.length) (List.mem_range.mpr (by omega)) n y (by rw [hd, mk_cl]; exact e) |>.elim fun n2 h => h.elim fun x2 h => ⟨n2, x2, h.1, by omega⟩
theorem ends_eq (a b : Str) : Txt.endswith a b = ends (cl a) b := by
  have ha := len_cl a
  have hb := len_cl b
  show (decide (0 + b.length ≤ a.length) && (a.cps.extract (a.length - b.length) (a.length - b.length + b.length) == b.cps)) = ends (cl a) b
  unfold ends
  rw [Bool.eq_iff_iff, Bool.and_eq_true, decide_eq_true_iff, decide_eq_true_iff, beq_iff_eq, Nat.zero_add, ha]
  refine and_congr_right fun h => ?_
  have e : (a.cps.extract (a.length - b.length) (a.length - b.length + b.length)).toList = (cl a).drop (a.length - b.length) := by
    rw [Array.toList_extract, show a.length - b.length + b.length = a.length by omega]
    show ((cl a).drop (a.length - b.length)).take (a.length - (a.length - b.length)) = _
    rw [List.take_of_length_le (by rw [List.length_drop]; omega)]
  rw [← e]
  exact ⟨fun h => by rw [h], fun h => Array.toList_inj.mp h⟩
/-- the places of the rules that fit a pile -/
def fitL (rs : List (Str × Str)) (bs : List Addr) (p : List Nat) : List Addr := ((rs.zip bs).filter fun q => ends p q.1.1).map (·.2)
/-- what is a list or a tuple, walked through -/
def iU (K : PySem.W.Frag) (tl : TE) : TI := fun σ H R => iList K tl σ H R ∨ iTup K tl σ H R
theorem wi_u {X : Cx} {tg l : Expr} {tl : TE} {K : PySem.W.Frag} (hl : PE X l tl) (hK : X.K = K := by rfl) : PI X tg l (iU K tl) := by
  subst hK
  exact ⟨fun pins s σ H R I h => h.elim ((pi_list hl).run pins s σ H R I) ((pi_tup hl).run pins s σ H R I)⟩
/-- the elements of a list or of a tuple -/
def RowAt (H : Hp) (t : Addr) (xs : List V) : Prop := H t = some (.lst xs) ∨ H t = some (.tup xs)
theorem RowAt.same {H H' : Hp} {t : Addr} {xs : List V} (h : RowAt H t xs) (s : Same H H') : RowAt H' t xs := h.imp (s _ _) (s _ _)
end Bk
set_option Elab.async false
set_option linter.all false
set_option maxRecDepth 100000
namespace Bk
open PySem PySem.Spec PyProof.Rows L2
/-! the very list of overlaps, in the order in which the program finds them -/
def ovStart (i j : Nat) : Nat := if i < j then 0 else 1
def ovAt (i j : Nat) (l l2 : Str) (k : Nat) : List Ov := match ovText l (k : Nat) l2 with
  | some z => [(z, i, k, j)]
  | none => []
def ovCellTo (i j : Nat) (l l2 : Str) (k : Nat) : List Ov := (List.range k).flatMap fun m => ovAt i j l l2 (ovStart i j + m)
theorem ovCellTo_none {i j : Nat} {l l2 : Str} {k : Nat} (h : ovText l ((ovStart i j + k : Nat) : Int) l2 = none) : ovCellTo i j l l2 (k + 1) = ovCellTo i j l l2 k ++ [] := by
  unfold ovCellTo
  rw [List.range_succ, List.flatMap_append]
  congr 1
  show ovAt i j l l2 (ovStart i j + k) ++ [] = _
  unfold ovAt
  rw [h]; rfl
theorem ovCellTo_some {i j : Nat} {l l2 z : Str} {k : Nat} (h : ovText l ((ovStart i j + k : Nat) : Int) l2 = some z) : ovCellTo i j l l2 (k + 1) = ovCellTo i j l l2 k ++ [(z, i, ovStart i j + k, j)] := by
  unfold ovCellTo
  rw [List.range_succ, List.flatMap_append]
  congr 1
  show ovAt i j l l2 (ovStart i j + k) ++ [] = _
  unfold ovAt
  rw [h]; rfl
def lf (rs : List (Str × Str)) (i : Nat) : Str := match rs[i]? with
  | some p => p.1
  | none => ""
theorem lf_of {rs : List (Str × Str)} {i : Nat} {l r : Str} (h : rs[i]? = some (l, r)) : lf rs i = l := by unfold lf; rw [h]
def ovCell (rs : List (Str × Str)) (i j : Nat) : List Ov := ovCellTo i j (lf rs i) (lf rs j) ((lf rs i).length - ovStart i j)
def ovRowTo (rs : List (Str × Str)) (i j : Nat) : List Ov := (List.range j).flatMap (ovCell rs i)
def ovTo (rs : List (Str × Str)) (i : Nat) : List Ov := (List.range i).flatMap fun m => ovRowTo rs m rs.length
def ovAll (rs : List (Str × Str)) : List Ov := ovTo rs rs.length
theorem ovRowTo_succ {rs : List (Str × Str)} {i j : Nat} {l r l2 r2 : Str} (h : rs[i]? = some (l, r)) (h2 : rs[j]? = some (l2, r2)) : ovRowTo rs i (j + 1) = ovRowTo rs i j ++ ovCellTo i j l l2 (l.length - ovStart i j) := by
  unfold ovRowTo
  rw [List.range_succ, List.flatMap_append]
  congr 1
  simp [ovCell, lf_of h, lf_of h2]
theorem ovTo_succ {rs : List (Str × Str)} {i : Nat} : ovTo rs (i + 1) = ovTo rs i ++ ovRowTo rs i rs.length := by
  unfold ovTo
  rw [List.range_succ, List.flatMap_append]
  congr 1
  simp
structure FoundE (K : PySem.W.Frag) (H : Hp) (F : Addr) (n : Nat) (os : List Ov) (m : Nat) : Prop where
  ex : ∃ ws : List V, H F = some (.lst ws) ∧ DpAll K H ws (os.map ov5) ∧ (∀ o ∈ os, ovOk n o) ∧ os.length ≤ m
theorem FoundE.same {K : PySem.W.Frag} {H H' : Hp} {F : Addr} {n m : Nat} {os : List Ov} (s : Same H H') (h : FoundE K H F n os m) : FoundE K H' F n os m := by
  obtain ⟨ws, h1, h2, h3, h4⟩ := h.ex
  exact ⟨ws, s _ _ h1, Wp.dps_same s _ _ h2, h3, h4⟩
theorem FoundE.mono {K : PySem.W.Frag} {H : Hp} {F : Addr} {n m m' : Nat} {os : List Ov} (h : FoundE K H F n os m) (l : m ≤ m') : FoundE K H F n os m' := by
  obtain ⟨ws, h1, h2, h3, h4⟩ := h.ex
  exact ⟨ws, h1, h2, h3, Nat.le_trans h4 l⟩
theorem FoundE.push {K : PySem.W.Frag} {H : Hp} {F T : Addr} {n m : Nat} {ws : List V} {os : List Ov} {o : Ov} (h1 : H F = some (.lst ws)) (h2 : DpAll K H ws (os.map ov5)) (h3 : ∀ o ∈ os, ovOk n o) (h4 : os.length ≤ m) (ho : ovOk n o) (hT : Dp K H (.ref T) (ov5 o)) :
    FoundE K (upd H F (.lst (ws ++ [.ref T]))) F n (os ++ [o]) (m + 1) := by
  refine ⟨⟨ws ++ [V.ref T], upd_same, ?_, fun x hx => ?_, by rw [List.length_append]; simp; omega⟩⟩
  · rw [List.map_append]
    exact Wp.dps_append (Wp.dps_upd h1 _ _ (ov5s_no os) h2) (.cons (Wp.dp_upd h1 _ _ (ov5_no o) hT) .nil)
  · rcases List.mem_append.mp hx with z | z
    · exact h3 x z
    · rw [List.mem_singleton.mp z]; exact ho
/-- an overlap out of its row -/
def dec5 : PyData → Ov
  | .tuple [.int _, .str z, .int i, .int p, .int j] => (z, i.toNat, p.toNat, j.toNat)
  | _ => ("", 0, 0, 0)
theorem dec5_ov5 (o : Ov) : dec5 (ov5 o) = o := by
  obtain ⟨z, i, p, j⟩ := o
  simp [dec5, ov5]
/-- the same overlaps in the order of their rows -/
structure OvSorted (os all : List Ov) : Prop where
  perm : os.Perm all
  sorted : ∃ ws : List V, ws.length = all.length ∧ os.map ov5 = ((ws.zip (all.map ov5)).mergeSort (PySem.W.dataLe false Prod.snd)).map Prod.snd
theorem OvSorted.of {ws : List V} {all : List Ov} {zs : List (V × PyData)} (hl : ws.length = all.length) (hp : zs.Perm (ws.zip (all.map ov5))) (hz : zs = (ws.zip (all.map ov5)).mergeSort (PySem.W.dataLe false Prod.snd)) :
    OvSorted (zs.map fun q => dec5 q.2) all ∧ (zs.map fun q => dec5 q.2).map ov5 = zs.map Prod.snd := by
  have hm : ∀ q ∈ zs, ov5 (dec5 q.2) = q.2 := fun q hq => by
    have h1 := hp.mem_iff.mp hq
    obtain ⟨o, _, e⟩ := List.mem_map.mp (List.of_mem_zip (show (q.1, q.2) ∈ ws.zip (all.map ov5) from h1)).2
    rw [← e, dec5_ov5]
  have he : (zs.map fun q => dec5 q.2).map ov5 = zs.map Prod.snd := by
    rw [List.map_map]
    exact List.map_congr_left hm
  refine ⟨⟨?_, ws, hl, by rw [he, ← hz]⟩, he⟩
  refine (hp.map _).trans ?_
  have e2 : (ws.zip (all.map ov5)).map (fun q => dec5 q.2) = all := by
    have : ((ws.zip (all.map ov5)).map Prod.snd).map dec5 = all := by
      rw [List.map_snd_zip (by rw [List.length_map]; omega), List.map_map]
      exact (List.map_congr_left (g := id) fun o _ => dec5_ov5 o).trans (List.map_id _)
    rwa [List.map_map] at this
  rw [e2]
/-- overlaps told as tuples -/
structure OvsAt (H : Hp) (ws : List V) (os : List Ov) : Prop where
  len : ws.length = os.length
  at_ : ∀ (i : Nat) (o : Ov), os[i]? = some o → ∃ T : Addr, ws[i]? = some (V.ref T) ∧ H T = some (.tup [.str o.1, .int (o.2.1 : Nat), .int (o.2.2.1 : Nat), .int (o.2.2.2 : Nat)])
theorem flat_len {α β : Type} {f : α → List β} {c : Nat} : ∀ (l : List α), (∀ x ∈ l, (f x).length ≤ c) → (l.flatMap f).length ≤ l.length * c
  | [], _ => by simp
  | a :: l, h => by
    rw [List.flatMap_cons, List.length_append, List.length_cons, Nat.succ_mul]
    have := flat_len l fun x hx => h x (List.mem_cons_of_mem _ hx)
    have := h a (List.mem_cons_self ..)
    omega
theorem ovAt_len (i j : Nat) (l l2 : Str) (k : Nat) : (ovAt i j l l2 k).length ≤ 1 := by
  unfold ovAt
  split
  · exact Nat.le_refl _
  · exact Nat.zero_le _
theorem ovAll_len {rs : List (Str × Str)} (g : ∀ i, (lf rs i).length ≤ 4) (h : rs.length ≤ 64) : (ovAll rs).length ≤ 20000 := by
  have h1 : ∀ i j, (ovCell rs i j).length ≤ 4 := fun i j => by
    refine Nat.le_trans (flat_len (c := 1) _ fun m _ => ovAt_len _ _ _ _ _) ?_
    have := g i
    rw [List.length_range]; omega
  have h2 : ∀ i, (ovRowTo rs i rs.length).length ≤ 256 := fun i => by
    refine Nat.le_trans (flat_len (c := 4) _ fun m _ => h1 i m) ?_
    rw [List.length_range]; omega
  refine Nat.le_trans (flat_len (c := 256) _ fun m _ => h2 m) ?_
  rw [List.length_range]; omega
theorem lf_len {rs : List (Str × Str)} (g : Good rs) (i : Nat) : (lf rs i).length ≤ 4 := by
  unfold lf
  cases h : rs[i]? with
  | none => exact Nat.zero_le _
  | some p => exact (g _ (List.mem_of_getElem? h)).1
theorem ovs_few {rs : List (Str × Str)} {os : List Ov} (h : OvSorted os (ovAll rs)) (hl : rs.length ≤ 64) (g : Good rs) : os.length ≤ 20000 := by
  rw [h.perm.length_eq]
  exact ovAll_len (lf_len g) hl
end Bk
set_option linter.all false
namespace Cf
/-! texts that shrink by rules: if the overlaps meet, what is left over does not hang on the way -/
section
variable (R : List Nat → List Nat → Prop)
def Step (u v : List Nat) : Prop := ∃ x l r y, R l r ∧ u = x ++ l ++ y ∧ v = x ++ r ++ y
inductive Star : List Nat → List Nat → Prop
  | refl (u) : Star u u
  | head {u v w} : Step R u v → Star v w → Star u w
end
variable {R : List Nat → List Nat → Prop}
theorem Star.trans {u v w : List Nat} (h : Star R u v) (k : Star R v w) : Star R u w := by
  induction h with
  | refl u => exact k
  | head s _ ih => exact .head s (ih k)
theorem Star.one {u v : List Nat} (h : Step R u v) : Star R u v := .head h (.refl _)
theorem Step.ctx {u v : List Nat} (x y : List Nat) (h : Step R u v) : Step R (x ++ u ++ y) (x ++ v ++ y) := by
  obtain ⟨a, l, r, b, h1, rfl, rfl⟩ := h
  exact ⟨x ++ a, l, r, b ++ y, h1, by simp, by simp⟩
theorem Star.ctx {u v : List Nat} (x y : List Nat) (h : Star R u v) : Star R (x ++ u ++ y) (x ++ v ++ y) := by
  induction h with
  | refl u => exact .refl _
  | head s _ ih => exact .head (s.ctx x y) ih
def Short (R : List Nat → List Nat → Prop) : Prop := ∀ l r, R l r → r.length < l.length
theorem Step.lt (g : Short R) {u v : List Nat} (h : Step R u v) : v.length < u.length := by
  obtain ⟨a, l, r, b, h1, rfl, rfl⟩ := h
  have := g _ _ h1
  simp; omega
theorem Star.le (g : Short R) {u v : List Nat} (h : Star R u v) : v.length ≤ u.length := by
  induction h with
  | refl u => exact Nat.le_refl _
  | head s _ ih => have := s.lt g; omega
/-- what is left over, as a reader tells it -/
structure Nf (R : List Nat → List Nat → Prop) (nf : List Nat → List Nat) : Prop where
  short : Short R
  star : ∀ u, Star R u (nf u)
  stop : ∀ u v, ¬ Step R (nf u) v
theorem Nf.fix {nf : List Nat → List Nat} (N : Nf R nf) {u : List Nat} (h : ∀ v, ¬ Step R u v) : nf u = u := by
  have s := N.star u
  generalize nf u = w at s
  cases s with
  | refl => rfl
  | head s _ => exact absurd s (h _)
theorem Nf.nf_nf {nf : List Nat → List Nat} (N : Nf R nf) (u : List Nat) : nf (nf u) = nf u := N.fix (N.stop u)
structure Meets (R : List Nat → List Nat → Prop) (nf : List Nat → List Nat) : Prop where
  over : ∀ l1 r1 l2 r2 a b c, R l1 r1 → R l2 r2 → b ≠ [] → l1 = a ++ b → l2 = b ++ c → nf (r1 ++ c) = nf (a ++ r2)
  inside : ∀ l1 r1 l2 r2 a c, R l1 r1 → R l2 r2 → l1 = a ++ l2 ++ c → nf r1 = nf (a ++ r2 ++ c)
/-- two splits of one text -/
theorem split2 {a b c d : List Nat} (h : a ++ b = c ++ d) : (∃ e, c = a ++ e ∧ b = e ++ d) ∨ ∃ e, a = c ++ e ∧ d = e ++ b :=
  (List.append_eq_append_iff.mp h).imp (fun ⟨e, h1, h2⟩ => ⟨e, h1, h2⟩) fun ⟨e, h1, h2⟩ => ⟨e, h1, h2⟩
theorem Nf.main {nf : List Nat → List Nat} (N : Nf R nf) (M : Meets R nf) : ∀ n u v, u.length ≤ n → Step R u v → nf u = nf v := by
  intro n
  induction n with
  | zero => intro u v h s; have := s.lt N.short; omega
  | succ n ih =>
    have star_eq : ∀ {u v : List Nat}, u.length ≤ n → Star R u v → nf u = nf v := by
      intro u v h s
      induction s with
      | refl => rfl
      | head s t ih2 => exact (ih _ _ h s).trans (ih2 (by have := s.lt N.short; omega))
    -- two steps of one text, the one not behind the other one
    have pair : ∀ (x1 l1 r1 y1 x2 l2 r2 y2 : List Nat), R l1 r1 → R l2 r2 → (x1 ++ l1 ++ y1).length ≤ n + 1 → x1 ++ l1 ++ y1 = x2 ++ l2 ++ y2 → (∃ e, x2 = x1 ++ e) → nf (x1 ++ r1 ++ y1) = nf (x2 ++ r2 ++ y2) := by
      rintro x1 l1 r1 y1 x2 l2 r2 y2 h1 h2 hl e ⟨d, rfl⟩
      have s1 := N.short _ _ h1
      have s2 := N.short _ _ h2
      have e' : l1 ++ y1 = d ++ l2 ++ y2 := by
        rw [List.append_assoc, List.append_assoc, List.append_assoc] at e
        rw [List.append_assoc]; exact List.append_cancel_left e
      have join : ∀ (o o1 o2 x y : List Nat), Step R o o1 → Step R o o2 → nf o1 = nf o2 → (x ++ o ++ y).length ≤ n + 1 → nf (x ++ o1 ++ y) = nf (x ++ o2 ++ y) := by
        intro o o1 o2 x y k1 k2 e hl
        have l1 := k1.lt N.short
        have l2 := k2.lt N.short
        simp at hl
        have a1 := star_eq (u := x ++ o1 ++ y) (by simp; omega) ((N.star o1).ctx x y)
        have a2 := star_eq (u := x ++ o2 ++ y) (by simp; omega) ((N.star o2).ctx x y)
        rw [a1, a2, e]
      rcases split2 (show l1 ++ y1 = d ++ (l2 ++ y2) by rw [e', List.append_assoc]) with ⟨b, rfl, hb⟩ | ⟨b, rfl, hb⟩
      · -- apart
        subst hb
        have z1 : Step R (x1 ++ r1 ++ (b ++ l2 ++ y2)) (x1 ++ r1 ++ (b ++ r2 ++ y2)) := ⟨x1 ++ r1 ++ b, l2, r2, y2, h2, by simp, by simp⟩
        have z2 : Step R (x1 ++ (l1 ++ b) ++ r2 ++ y2) (x1 ++ r1 ++ (b ++ r2 ++ y2)) := ⟨x1, l1, r1, b ++ r2 ++ y2, h1, by simp, by simp⟩
        simp at hl
        have q1 := ih _ _ (by simp; omega) z1
        have q2 := ih _ _ (by simp; omega) z2
        rw [show x1 ++ r1 ++ (b ++ (l2 ++ y2)) = x1 ++ r1 ++ (b ++ l2 ++ y2) by simp, q1, q2]
      · -- they touch, or not at all
        by_cases hb0 : b = []
        · subst hb0
          simp at hb
          have z1 : Step R (x1 ++ r1 ++ (l2 ++ y2)) (x1 ++ r1 ++ (r2 ++ y2)) := ⟨x1 ++ r1, l2, r2, y2, h2, by simp, by simp⟩
          have z2 : Step R (x1 ++ d ++ r2 ++ y2) (x1 ++ r1 ++ (r2 ++ y2)) := ⟨x1, d, r1, r2 ++ y2, by simpa using h1, by simp, by simp⟩
          simp at hl
          have q1 := ih _ _ (by simp; rw [← hb] at hl; simp at hl; simp at s1; omega) z1
          have q2 := ih _ _ (by simp; rw [← hb] at hl; simp at hl; omega) z2
          rw [← hb, q1, q2]
        · rcases split2 hb with ⟨c, rfl, hc⟩ | ⟨c, rfl, hc⟩
          · -- the other one lies within the one
            subst hc
            have k1 : Step R (d ++ (l2 ++ c)) r1 := ⟨[], d ++ (l2 ++ c), r1, [], h1, by simp, by simp⟩
            have k2 : Step R (d ++ (l2 ++ c)) (d ++ r2 ++ c) := ⟨d, l2, r2, c, h2, by simp, by simp⟩
            have m := M.inside _ _ _ _ d c h1 h2 (by simp)
            have := join _ _ _ x1 y1 k1 k2 m hl
            rw [this]
            simp
          · subst hc
            have k1 : Step R (d ++ (b ++ c)) (r1 ++ c) := ⟨[], d ++ b, r1, c, h1, by simp, by simp⟩
            have k2 : Step R (d ++ (b ++ c)) (d ++ r2) := ⟨d, b ++ c, r2, [], h2, by simp, by simp⟩
            have m := M.over _ _ _ _ d b c h1 h2 hb0 rfl rfl
            have := join _ _ _ x1 y2 k1 k2 m (by simp at hl ⊢; omega)
            simp at this ⊢
            exact this
    have pair' : ∀ u v w, u.length ≤ n + 1 → Step R u v → Step R u w → nf v = nf w := by
      rintro u v w hu ⟨x1, l1, r1, y1, h1, rfl, rfl⟩ ⟨x2, l2, r2, y2, h2, e, rfl⟩
      rcases split2 (show x1 ++ (l1 ++ y1) = x2 ++ (l2 ++ y2) by simpa using e) with ⟨d, hd, _⟩ | ⟨d, hd, _⟩
      · exact pair _ _ _ _ _ _ _ _ h1 h2 hu e ⟨d, hd⟩
      · exact (pair _ _ _ _ _ _ _ _ h2 h1 (by rw [← e]; exact hu) e.symm ⟨d, hd⟩).symm
    intro u v hu s
    have hs := N.star u
    have hn := N.nf_nf u
    generalize ht : nf u = t at hs hn
    cases hs with
    | refl => exact absurd s fun s => N.stop u v (by rw [ht]; exact s)
    | head s0 t0 =>
      have e1 := pair' _ _ _ hu s s0
      have e2 := star_eq (by have := s0.lt N.short; omega) t0
      rw [e1, e2, hn]
theorem Nf.step {nf : List Nat → List Nat} (N : Nf R nf) (M : Meets R nf) {u v : List Nat} (h : Step R u v) : nf u = nf v := N.main M _ _ _ (Nat.le_refl _) h
theorem Nf.steps {nf : List Nat → List Nat} (N : Nf R nf) (M : Meets R nf) {u v : List Nat} (h : Star R u v) : nf u = nf v := by
  induction h with
  | refl => rfl
  | head s _ ih => exact (N.step M s).trans ih
/-- pieces may be shrunk ahead -/
theorem Nf.ctx {nf : List Nat → List Nat} (N : Nf R nf) (M : Meets R nf) (x y u : List Nat) : nf (x ++ nf u ++ y) = nf (x ++ u ++ y) := (N.steps M ((N.star u).ctx x y)).symm
theorem Nf.cong {nf : List Nat → List Nat} (N : Nf R nf) (M : Meets R nf) {u v : List Nat} (x y : List Nat) (h : nf u = nf v) : nf (x ++ u ++ y) = nf (x ++ v ++ y) := by
  rw [← N.ctx M x y u, h, N.ctx M x y v]
theorem Nf.app {nf : List Nat → List Nat} (N : Nf R nf) (M : Meets R nf) {u v u' v' : List Nat} (h : nf u = nf v) (h' : nf u' = nf v') : nf (u ++ u') = nf (v ++ v') := by
  have a := N.cong M [] u' h
  have b := N.cong M v [] h'
  simp at a b
  exact a.trans b
/-- an end of a text is what is left over of it -/
theorem Nf.only {nf : List Nat → List Nat} (N : Nf R nf) (M : Meets R nf) {u v : List Nat} (h : Star R u v) (hv : ∀ w, ¬ Step R v w) : v = nf u := by
  rw [N.steps M h, N.fix hv]
/-- where one settled book says all rules of another one, equal ends there give equal ends here -/
theorem Nf.says {R' : List Nat → List Nat → Prop} {nf nf' : List Nat → List Nat} (N : Nf R nf) (M : Meets R nf) (N' : Nf R' nf') (h : ∀ l r, R' l r → nf l = nf r) (u : List Nat) : nf (nf' u) = nf u := by
  have := N'.star u
  generalize nf' u = t at this
  induction this with
  | refl => rfl
  | head s _ ih =>
    rw [ih]
    obtain ⟨x, l, r, y, h1, rfl, rfl⟩ := s
    exact (N.cong M x y (h l r h1)).symm
end Cf
set_option Elab.async false
set_option linter.all false
set_option maxRecDepth 100000
namespace Bk
open PySem PySem.Spec PyProof.Rows L2 Cf
/-! the pile tells an end; in a settled book it is the only one -/
/-- the rules as rows of signs -/
def RR (rs : List (Str × Str)) (l r : List Nat) : Prop := ∃ p ∈ rs, cl p.1 = l ∧ cl p.2 = r
abbrev Irr (rs : List (Str × Str)) (p : List Nat) : Prop := ∀ v, ¬ Step (RR rs) p v
theorem irr_pre {rs : List (Str × Str)} {a b : List Nat} (h : Irr rs (a ++ b)) : Irr rs a := fun v s => by
  have := s.ctx [] b
  simp at this
  exact h _ this
theorem rr_short {rs : List (Str × Str)} (g : Good rs) : Short (RR rs) := fun l r ⟨p, hp, e1, e2⟩ => by
  obtain ⟨_, _, h⟩ := g p hp
  rw [← e1, ← e2, len_cl, len_cl]; exact h
theorem irr_nil {rs : List (Str × Str)} (g : Good rs) : Irr rs [] := fun v s => by
  have := s.lt (rr_short g)
  simp at this
theorem irr_take {rs : List (Str × Str)} {p : List Nat} {j : Nat} (h : Irr rs p.dropLast) (hj : j ≤ p.length - 1) : Irr rs (p.take j) := by
  refine irr_pre (b := p.dropLast.drop j) ?_
  have e : p.take j = p.dropLast.take j := by
    rw [List.dropLast_eq_take, List.take_take, Nat.min_eq_left hj]
  rw [e, List.take_append_drop]
  exact h
theorem shrinkP_nf {rs : List (Str × Str)} (g : Good rs) : ∀ (f : Nat) (p : List Nat), p.length ≤ f → Irr rs p.dropLast → Star (RR rs) p (shrinkP rs f p) ∧ Irr rs (shrinkP rs f p)
  | 0, p, h, _ => by
    have : p = [] := List.length_eq_zero_iff.mp (by omega)
    subst this
    exact ⟨.refl _, irr_nil g⟩
  | f + 1, p, h, hi => by
    unfold shrinkP
    cases hf : fit rs (last4 p) with
    | none =>
      show Star (RR rs) p p ∧ Irr rs p
      refine ⟨.refl _, ?_⟩
      rintro v ⟨x, l, r, y, ⟨q, hq, e1, e2⟩, e, _⟩
      rcases List.eq_nil_or_concat y with z | ⟨y', b, z⟩
      · subst z
        rw [List.append_nil] at e
        obtain ⟨m, hm, em⟩ := List.getElem_of_mem hq
        have hl : l.length = q.1.length := by rw [← e1, len_cl]
        obtain ⟨n, x2, e3, _⟩ := fit_first g (p := p) (m := m) (l := q.1) (r := q.2) (by rw [List.getElem?_eq_getElem hm, em]) (decide_eq_true ⟨by rw [e, List.length_append]; omega, by
          rw [e, List.length_append, e1, show x.length + l.length - q.1.length = x.length by omega, List.drop_left]⟩)
        rw [hf] at e3; cases e3
      · rw [List.concat_eq_append] at z
        subst z
        refine hi (x ++ r ++ y') ⟨x, l, r, y', ⟨q, hq, e1, e2⟩, ?_, rfl⟩
        rw [e, ← List.append_assoc, List.dropLast_concat]
    | some q =>
      obtain ⟨n, l, r⟩ := q
      obtain ⟨h1, h2⟩ := fit_ends g hf
      obtain ⟨a1, a2, a3, a4, a5⟩ := fit_len g hf
      obtain ⟨b1, b2⟩ := of_decide_eq_true h2
      have hp : p = p.take (p.length - l.length) ++ cl l := by rw [← b2, List.take_append_drop]
      have st : Step (RR rs) p (p.take (p.length - l.length) ++ cl r) := ⟨p.take (p.length - l.length), cl l, cl r, [], ⟨(l, r), List.mem_of_getElem? h1, rfl, rfl⟩, by rw [List.append_nil]; exact hp, by simp⟩
      have hrl := len_cl r
      have hi2 : Irr rs (p.take (p.length - l.length) ++ cl r).dropLast := by
        cases hr : cl r with
        | nil =>
          rw [List.append_nil, List.dropLast_eq_take, List.take_take, List.length_take]
          exact irr_take hi (by omega)
        | cons c t =>
          rw [hr] at hrl
          have ht : t = [] := by
            cases t with
            | nil => rfl
            | cons _ _ => simp at hrl; omega
          subst ht
          rw [List.dropLast_concat]
          exact irr_take hi (by simp at hrl; omega)
      obtain ⟨i1, i2⟩ := shrinkP_nf g f _ (by rw [List.length_append, List.length_take, hrl]; omega) hi2
      exact ⟨.head st i1, i2⟩
/-- the pile, when it begins with an end -/
def overF (rs : List (Str × Str)) (p text : List Nat) : List Nat := text.foldl (fun p c => shrinkP rs (p ++ [c]).length (p ++ [c])) p
theorem overF_nf {rs : List (Str × Str)} (g : Good rs) : ∀ (t p : List Nat), Irr rs p → Star (RR rs) (p ++ t) (overF rs p t) ∧ Irr rs (overF rs p t)
  | [], p, h => ⟨by rw [List.append_nil]; exact .refl _, h⟩
  | c :: t, p, h => by
    obtain ⟨s, i⟩ := shrinkP_nf g (p ++ [c]).length (p ++ [c]) (Nat.le_refl _) (by rw [List.dropLast_concat]; exact h)
    obtain ⟨s2, i2⟩ := overF_nf g t _ i
    refine ⟨?_, i2⟩
    have := s.ctx [] t
    simp at this
    rw [show p ++ c :: t = p ++ (c :: t) from rfl]
    refine Star.trans ?_ s2
    simpa using this
theorem nf_over {rs : List (Str × Str)} (g : Good rs) : Nf (RR rs) (overP rs) :=
  ⟨rr_short g, fun u => (overF_nf g u [] (irr_nil g)).1, fun u v => (overF_nf g u [] (irr_nil g)).2 v⟩
/-- each text has one end -/
def Settled (rs : List (Str × Str)) : Prop := Meets (RR rs) (overP rs)
/-- how the law looks at two left sides -/
def lawOk (rs : List (Str × Str)) (a b c d : List Nat) (k : Nat) : Prop := (a.drop k).take (min (a.length - k) c.length) = c.take (min (a.length - k) c.length) →
  overP rs (b ++ (a ++ c.drop (min (a.length - k) c.length)).drop a.length) = overP rs ((a ++ c.drop (min (a.length - k) c.length)).take k ++ d ++ (a ++ c.drop (min (a.length - k) c.length)).drop (k + c.length))
instance {rs : List (Str × Str)} {a b c d : List Nat} {k : Nat} : Decidable (lawOk rs a b c d k) := by unfold lawOk; infer_instance
def LawSet (rs : List (Str × Str)) : Prop := ∀ p ∈ rs, ∀ q ∈ rs, ∀ k < p.1.length, lawOk rs (cl p.1) (cl p.2) (cl q.1) (cl q.2) k
instance {rs : List (Str × Str)} : Decidable (LawSet rs) := by unfold LawSet; infer_instance
theorem settled_of {rs : List (Str × Str)} (g : Good rs) (h : LawSet rs) : Settled rs := by
  refine ⟨?_, ?_⟩
  · rintro l1 r1 l2 r2 a b c ⟨p, hp, e1, e2⟩ ⟨q, hq, e3, e4⟩ hb el1 el2
    have hbl : 0 < b.length := List.length_pos_iff.mpr hb
    have hk : a.length < p.1.length := by rw [← len_cl, e1, el1, List.length_append]; omega
    have := h p hp q hq a.length hk
    rw [e1, e2, e3, e4, el1, el2] at this
    unfold lawOk at this
    rw [show min ((a ++ b).length - a.length) (b ++ c).length = b.length by rw [List.length_append, List.length_append]; omega] at this
    have h2 := this (by simp)
    rw [List.drop_left] at h2
    rw [List.drop_left] at h2
    rw [h2]
    congr 1
    rw [List.append_assoc a b c, List.take_left, List.drop_of_length_le (by simp), List.append_nil]
  · rintro l1 r1 l2 r2 a c ⟨p, hp, e1, e2⟩ ⟨q, hq, e3, e4⟩ el1
    have hs := rr_short g l2 r2 ⟨q, hq, e3, e4⟩
    have hk : a.length < p.1.length := by rw [← len_cl, e1, el1, List.length_append, List.length_append]; omega
    have := h p hp q hq a.length hk
    rw [e1, e2, e3, e4, el1] at this
    unfold lawOk at this
    rw [show min ((a ++ l2 ++ c).length - a.length) l2.length = l2.length by rw [List.length_append, List.length_append]; omega] at this
    have h2 := this (by simp)
    rw [List.drop_length, List.append_nil, List.drop_length, List.append_nil] at h2
    rw [h2]
    congr 1
    rw [List.append_assoc a l2 c, List.take_left, ← List.append_assoc a l2 c, show a.length + l2.length = (a ++ l2).length by rw [List.length_append], List.drop_left]
theorem cl_app (a b : Str) : cl (a ++ b) = cl a ++ cl b := TL.tl_append a b
theorem cl_used {z l r : Str} {x y : List Nat} {k : Int} (h : cl z = x ++ cl l ++ y) (hk : k = x.length) : cl (usedS z k l r) = x ++ cl r ++ y := by
  unfold usedS
  rw [cl_app, cl_app, cutS_hi x.length hk, cutS_lo (x.length + l.length) (by rw [hk]; omega), cl_mk, cl_mk, h]
  rw [List.append_assoc x, List.take_left, ← List.append_assoc x, show x.length + l.length = (x ++ cl l).length by rw [List.length_append, len_cl], List.drop_left]
theorem bothOf_nat {l o : Str} {p : Nat} (hp : p ≤ l.length) : bothOf l p o = ((min (l.length - p) o.length : Nat) : Int) := by
  unfold bothOf
  split <;> omega
theorem ovText_ok {l o z : Str} {p : Nat} (hp : p ≤ l.length) (h : ovText l (p : Nat) o = some z) : (∃ y, cl z = cl l ++ y) ∧ ∃ y, cl z = (cl l).take p ++ cl o ++ y := by
  unfold ovText at h
  rw [bothOf_nat hp] at h
  generalize hm : min (l.length - p) o.length = m at h
  by_cases e : cutS l (some ((p : Nat) : Int)) (some (((p : Nat) : Int) + ((m : Nat) : Int))) = cutS o none (some ((m : Nat) : Int))
  · rw [if_pos e] at h
    cases h
    rw [cutS_mid p (p + m) rfl (by omega) hp, cutS_hi m rfl] at e
    have e' := congrArg cl e
    rw [cl_mk, cl_mk, show p + m - p = m by omega] at e'
    rw [cl_app, cutS_lo m rfl, cl_mk]
    refine ⟨⟨_, rfl⟩, ?_⟩
    have hll := len_cl l
    have hol := len_cl o
    rcases Nat.le_total o.length (l.length - p) with h1 | h1
    · rw [Nat.min_eq_right h1] at hm
      subst hm
      rw [List.take_of_length_le (l := cl o) (by omega)] at e'
      rw [List.drop_of_length_le (by omega), List.append_nil]
      refine ⟨((cl l).drop p).drop o.length, ?_⟩
      rw [← e', List.append_assoc, List.take_append_drop, List.take_append_drop]
    · rw [Nat.min_eq_left h1] at hm
      rw [List.take_of_length_le (by rw [List.length_drop]; omega)] at e'
      refine ⟨[], ?_⟩
      rw [List.append_nil]
      have : cl o = (cl l).drop p ++ (cl o).drop m := by rw [e', List.take_append_drop]
      rw [this, ← List.append_assoc, List.take_append_drop, ← this]
  · rw [if_neg e] at h; cases h
def rt (rs : List (Str × Str)) (i : Nat) : Str := match rs[i]? with
  | some p => p.2
  | none => ""
theorem rt_of {rs : List (Str × Str)} {i : Nat} {l r : Str} (h : rs[i]? = some (l, r)) : rt rs i = r := by unfold rt; rw [h]
/-- whether the two ways of an overlap lead to one end, by the pile -/
def meets (rs : List (Str × Str)) (o : Ov) : Prop := overP rs (cl (usedS o.1 0 (lf rs o.2.1) (rt rs o.2.1))) = overP rs (cl (usedS o.1 (o.2.2.1 : Nat) (lf rs o.2.2.2) (rt rs o.2.2.2)))
def QuarAt (rs : List (Str × Str)) (os : List Ov) (v : V) : Prop := (v = .non ∧ ∀ o ∈ os, meets rs o) ∨ ∃ (k : Nat) (o : Ov), os[k]? = some o ∧ ¬ meets rs o ∧ (∀ (m : Nat) (o' : Ov), m < k → os[m]? = some o' → meets rs o') ∧ v = .str o.1
theorem ov_mem {rs : List (Str × Str)} {o : Ov} (h : o ∈ ovAll rs) : ∃ l r l2 r2, rs[o.2.1]? = some (l, r) ∧ rs[o.2.2.2]? = some (l2, r2) ∧ ovText l (o.2.2.1 : Nat) l2 = some o.1 ∧ o.2.2.1 < l.length := by
  unfold ovAll ovTo ovRowTo ovCell ovCellTo at h
  obtain ⟨i, hi, h⟩ := List.mem_flatMap.mp h
  obtain ⟨j, hj, h⟩ := List.mem_flatMap.mp h
  obtain ⟨m, hm, h⟩ := List.mem_flatMap.mp h
  have hi' := List.mem_range.mp hi
  have hj' := List.mem_range.mp hj
  have hm' := List.mem_range.mp hm
  obtain ⟨⟨l, r⟩, e1⟩ : ∃ p, rs[i]? = some p := ⟨_, List.getElem?_eq_getElem hi'⟩
  obtain ⟨⟨l2, r2⟩, e2⟩ : ∃ p, rs[j]? = some p := ⟨_, List.getElem?_eq_getElem hj'⟩
  rw [lf_of e1] at h hm'
  rw [lf_of e2] at h
  unfold ovAt at h
  cases ho : ovText l ((ovStart i j + m : Nat) : Int) l2 with
  | none => rw [ho] at h; cases h
  | some z =>
    rw [ho] at h
    have h := List.mem_singleton.mp h
    subst h
    exact ⟨l, r, l2, r2, e1, e2, ho, by simp only; omega⟩
end Bk
set_option Elab.async false
set_option linter.all false
set_option maxRecDepth 100000
set_option maxHeartbeats 1000000
namespace Bk
open PySem PySem.Spec PyProof.Rows L2
def rLstS : List V → Hp → VK → Prop := fun xs H Q => ∃ z, xs = [V.str z] ∧ z.length ≤ sizeLine ∧ ∀ l, H l = none → Q (.ref l) (upd H l (.lst ((cl z).map ch)))
def IteS (z : Str) : It :=
  ⟨fun i _ => i < z.cps.size,
   fun i H v H' => ∃ T c, v = .ref T ∧ H T = none ∧ H' = upd H T (.tup [.int (i : Nat), ch c]) ∧ z.cps[i]? = some c,
   fun i _ => i = z.cps.size⟩
theorem turn_enS {P : Program} {w : World} {K : PySem.W.Frag} {elts : List Expr} {kk : Nat} {tpos : Pos} (z : Str) (t : Tok) (e it : Addr) :
    Turn P w K (.Tuple elts kk tpos) (IteS z) [e, it] e (fun i h => (∃ old, IsEnum h e it ((i : Nat) : Int) old) ∧ h.IsStrIter it (strIterType z) z t i ∧ e ≠ it) where
  mem := List.mem_cons_self
  obj := fun i h st b hb => by
    obtain ⟨⟨old, he⟩, ⟨o, ho, _, hd⟩, _⟩ := st
    rcases List.mem_cons.mp hb with q | q
    · rw [q]; exact ⟨_, he, fun v q => nomatch q⟩
    · rw [List.mem_singleton.mp q]; exact ⟨o, ho, fun v q => by rw [hd] at q; cases q⟩
  keep := fun i h h' st k => ⟨⟨_, k e (by simp) _ st.1.choose_spec⟩, (let ⟨o, ho, r⟩ := st.2.1; ⟨o, k it (by simp) o ho, r⟩), st.2.2⟩
  item := by
    rintro X rfl rfl rfl hc i pins s σ H E I hf ⟨⟨old, he⟩, hit, hne⟩ hlt
    have hel : e < s.heap.objs.size := Heap.lt_size he
    have hil : it < s.heap.objs.size := hit.elim fun o q => Heap.lt_size q.1
    have Dr := Draws.text (prog := X.prog) (w := X.w) (A := X.A.in1) (show X.A.in1.handled = none from I.ok.hd hc) it z t
    refine wpAny_pyNext_enum_itemD Dr he hit hlt hne (by simp [hne]) fun x' h' tk hp ho hst hT hsz hk => ?_
    obtain ⟨c, u, hcx, rfl⟩ := hp
    refine ⟨_, rfl, wpAny_letOwnedTupleGo_enum (s := { s with heap := h', toks := tk + 1 }) ho fun h'' he' sb => ?_⟩
    have hT2 : h''.get? s.heap.objs.size = some { cls := .type "tuple", data := .seq #[.int i tk, .str ⟨#[c]⟩ u] } := (sb.2 _ (Nat.ne_of_gt hel)).trans hT
    have new : ObjOk X.prog X.w (upd H s.heap.objs.size (.tup [.int (i : Nat), ch c])) h'' s.heap.objs.size (.tup [.int (i : Nat), ch c]) := ⟨(by decide : 2 ≤ sizeLine), [.int i tk, .str ⟨#[c]⟩ u], .cons ⟨_, rfl⟩ (.cons ⟨u, rfl⟩ .nil), ⟨_, hT2, rfl, _, rfl⟩⟩
    have I1 : Inv X pins σ (upd H s.heap.objs.size (.tup [.int (i : Nat), ch c])) { s with heap := h'', toks := tk + 1 } := by
      refine I.turnedNew (ch := [e, it]) (fun b ob hb q => ?_) hf (Nat.le_refl _) new
      have h1 : b ≠ e := fun z => hb (by simp [z])
      have h2 : b ≠ it := fun z => hb (by simp [z])
      exact (sb.2 b h1).trans (hk b ob h1 h2 q)
    refine ⟨.ref s.heap.objs.size, _, I1, rfl, ⟨_, c, rfl, I.hok.fresh (Nat.le_refl _), rfl, hcx⟩, ⟨⟨.str ⟨#[c]⟩ u, ?_⟩, (let ⟨o, ho, r⟩ := hst; ⟨o, (sb.2 it (Ne.symm hne)).trans ho, r⟩), hne⟩, fun b hb => ?_⟩
    · rw [show ((i + 1 : Nat) : Int) = (i : Int) + 1 by omega]; exact he'
    · have hb' : b < s.heap.objs.size := by
        rcases List.mem_cons.mp hb with z | z
        · rw [z]; exact hel
        · rw [List.mem_singleton.mp z]; exact hil
      rw [upd_ne (Nat.ne_of_lt hb')]; exact (hf b hb).1
  done := by
    rintro X rfl rfl rfl hc i pins s σ H E I hf ⟨⟨old, he⟩, hit, hne⟩ hx
    obtain ⟨f0, f1, f2, f3, f4, f5⟩ := hf it (by simp)
    have Dr := Draws.text (prog := X.prog) (w := X.w) (A := X.A.in1) (show X.A.in1.handled = none from I.ok.hd hc) it z t
    have hx' : i = z.cps.size := hx
    subst hx'
    exact wpAny_pyNext_enum_endD Dr he hit fun h' eb => ⟨rfl, I.turned (t' := s.toks) (fun b o hb q => eb b o hb q) f0 f1 f3 f4 f5⟩
  self := fun A i s Q E st h => wpAny_pyIter_enum st.1.choose_spec h
def iEnumS (ta : TA) : TI := fun σ H R => ta σ H fun vs H1 => ∃ z, vs = [.str z] ∧ R (IteS z) H1
theorem wi_enumS {X : Cx} {e : Expr} {ta : TA} {p pos tpos : Pos} {elts : List Expr} {kk : Nat} (hg : Gl X "enumerate") (hm : X.mg "enumerate" = none) (ha : PA X [e] ta) (hs : starEach [e] X.env = [(false, eval e X.env)] := by rfl) :
    PI X (.Tuple elts kk tpos) (.Call (.Name "enumerate" p) [e] [] pos) (iEnumS ta) := by
  refine ⟨fun pins s σ H R I h => ?_⟩
  refine Call_ (ld_blt I hg hm boot_enumerate (PyProof.Rows.callWith_type1 (thn (ha.run pos pins s σ H _ I h) fun us s1 ⟨vs, H1, I1, r1, z, ex, q⟩ => ?_) hs rfl))
  subst ex
  cases r1 with
  | cons r rr =>
    cases rr
    obtain ⟨t, rfl⟩ := r
    have new : ∀ {h' : Heap}, (∀ b o, s1.heap.get? b = some o → h'.get? b = some o) → ∀ b ∈ [s1.heap.objs.size + 1, s1.heap.objs.size], FpOk X pins H1 b := fun {h'} _ b hb => by
      have hle : s1.heap.objs.size ≤ b := by
        rcases List.mem_cons.mp hb with z | z
        · omega
        · have := List.mem_singleton.mp z; omega
      exact I1.fpOk hle (I1.hok.fresh hle)
    refine call_enumerate_str fun h' he hit hsz hk => wpAny_pyIter_enum he ?_
    exact ⟨s1.heap.objs.size + 1, [s1.heap.objs.size + 1, s1.heap.objs.size], _, _, H1, rfl, I1.kept (t' := s1.toks) hk, turn_enS z t (s1.heap.objs.size + 1) s1.heap.objs.size, ⟨⟨.none, he⟩, hit, Nat.succ_ne_self _⟩, new hk, q⟩
theorem walk_enS {z : Str} : L2.Walk (IteS z) z.cps.size (fun _ => True) (YPair (fun i => some (.int (i : Nat))) (fun i => z.cps[i]?.map ch)) :=
  ⟨fun i _ hi _ => hi, fun _ _ => rfl, fun i H v H' _ _ ⟨T, c, h1, h2, h3, h4⟩ => ⟨T, .int (i : Nat), ch c, h1, h2, h3, rfl, by simp only; rw [h4]; rfl⟩⟩
/-- the loop over enumerate of a text -/
theorem enumS {z : Str} {σ : L2.St} {H : Hp} {D : Ends} {g : TG} {tb : TS} (Pv : Nat → L2.St → Hp → Prop) (h0 : Pv 0 σ H)
    (hs : ∀ i c σ1 H1 T, z.cps[i]? = some c → Pv i σ1 H1 → H1 T = none → g (.ref T) σ1 (upd H1 T (.tup [.int (i : Nat), ch c])) fun σ2 H2 => tb { D with nx := Pv (i + 1), ct := Pv (i + 1), bk := D.nx } σ2 H2)
    (hd : ∀ σ1 H1, Pv z.cps.size σ1 H1 → D.nx σ1 H1) : Wp.FORg (IteS z) g tb D σ H := by
  refine Wp.forIt walk_enS Pv h0 (fun _ _ _ _ _ => trivial) ?_ hd
  rintro i v σ1 H1 H' hi hp ⟨T, x, y, rfl, hT, rfl, hx, hy⟩
  cases hx
  obtain ⟨c, hc, rfl⟩ := Option.map_eq_some_iff.mp hy
  exact hs i c σ1 H1 T hc hp hT
theorem ienumS {ta : TA} {σ : L2.St} {H : Hp} {R : It → Hp → Prop} (h : ta σ H fun vs H1 => ∃ z, vs = [.str z] ∧ R (IteS z) H1) : iEnumS ta σ H R := h
/-! one row of data is less than another one -/
def rLtD (K : PySem.W.Frag) : R2 := fun x y H Q => ∃ d e, Dp K H x d ∧ Dp K H y e ∧ PySem.W.alike d e = true ∧ d ≠ .none ∧ d.depth ≤ 60 ∧ Q (.bl (PySem.W.dataLt d e)) H
def rLtU (K : PySem.W.Frag) : R2 := fun x y H Q => Wp.rLt x y H Q ∨ rLtD K x y H Q
end Bk
namespace Wp
open PySem PySem.Spec PyProof.Rows L2
theorem brk {D : Ends} {σ : L2.St} {H : Hp} (h : D.bk σ H) : tBreak D σ H := h
theorem aug {i : Nat} {te : TE} {ti : TIp} {D : Ends} {σ : L2.St} {H : Hp} (h : ∃ x, σ[i]? = some (some x) ∧ te σ H fun y H1 => ti x y H1 fun z H2 => D.nx (σ.set i (some z)) H2) : tAug i te ti D σ H := h
theorem ipaI {i j : Int} {H : Hp} {Q : VK} {g : Int → Int → Int} (h : Q (.int (g i j)) H) : ipI g (.int i) (.int j) H Q := ⟨i, j, rfl, rfl, h⟩
theorem ipsI {i j : Int} {H : Hp} {Q : VK} {g : Int → Int → Int} (h : Q (.int (g i j)) H) : ipI g (.int i) (.int j) H Q := ⟨i, j, rfl, rfl, h⟩
end Wp
set_option Elab.async false
set_option linter.all false
set_option maxRecDepth 100000
namespace Bk
open PySem PySem.Spec PyProof.Rows L2
/-! written texts, rules, rows of rules, laid by their expressions -/
section
variable {K : PySem.W.Frag} {σ : L2.St}
def LayS (te : TE) (σ : L2.St) (z : Str) : Prop := ∀ (H : Hp) (Q : VK), Q (.str z) H → te σ H Q
def LayR (te : TE) (σ : L2.St) (p : Str × Str) : Prop := ∀ (H : Hp) (Q : VK), (∀ b H', Same H H' → H' b = some (.tup [.str p.1, .str p.2]) → Q (.ref b) H') → te σ H Q
def LayRs (t : TA) (σ : L2.St) (rs : List (Str × Str)) : Prop := ∀ (H : Hp) (R : List V → Hp → Prop), (∀ bs H', Same H H' → RulesAt H' bs rs → R (bs.map V.ref) H') → t σ H R
def LayE (te : TE) (σ : L2.St) (rs : List (Str × Str)) : Prop := ∀ (H : Hp) (Q : VK), (∀ t bs H', Same H H' → H' t = some (.tup (bs.map V.ref)) → RulesAt H' bs rs → Q (.ref t) H') → te σ H Q
/-- rows of rules, at their places -/
def EntAt (H : Hp) : List Addr → List (List (Str × Str)) → Prop
  | [], [] => True
  | t :: ts, rs :: rss => (∃ bs : List Addr, H t = some (.tup (bs.map V.ref)) ∧ RulesAt H bs rs) ∧ EntAt H ts rss
  | _, _ => False
theorem EntAt.same {H H' : Hp} (s : Same H H') : ∀ {ts : List Addr} {rss : List (List (Str × Str))}, EntAt H ts rss → EntAt H' ts rss
  | [], [], _ => trivial
  | _ :: _, _ :: _, ⟨⟨bs, a, b⟩, h⟩ => ⟨⟨bs, s _ _ a, b.same s⟩, h.same s⟩
  | [], _ :: _, h => h.elim
  | _ :: _, [], h => h.elim
theorem EntAt.len {H : Hp} : ∀ {ts : List Addr} {rss : List (List (Str × Str))}, EntAt H ts rss → ts.length = rss.length
  | [], [], _ => rfl
  | _ :: _, _ :: _, ⟨_, h⟩ => by rw [List.length_cons, List.length_cons, h.len]
  | [], _ :: _, h => h.elim
  | _ :: _, [], h => h.elim
theorem EntAt.get {H : Hp} : ∀ {ts : List Addr} {rss : List (List (Str × Str))} {i : Nat} {rs : List (Str × Str)}, EntAt H ts rss → rss[i]? = some rs → ∃ t bs, ts[i]? = some t ∧ H t = some (.tup (bs.map V.ref)) ∧ RulesAt H bs rs
  | [], [], _, _, _, e => by cases e
  | t :: _, _ :: _, 0, _, ⟨⟨bs, a, b⟩, _⟩, e => by cases e; exact ⟨t, bs, rfl, a, b⟩
  | _ :: _, _ :: _, i + 1, _, ⟨_, h⟩, e => h.get (i := i) e
  | [], _ :: _, _, _, h, _ => h.elim
  | _ :: _, [], _, _, h, _ => h.elim
def LayEs (t : TA) (σ : L2.St) (rss : List (List (Str × Str))) : Prop := ∀ (H : Hp) (R : List V → Hp → Prop), (∀ ts H', Same H H' → EntAt H' ts rss → R (ts.map V.ref) H') → t σ H R
def LayM (te : TE) (σ : L2.St) (rss : List (List (Str × Str))) : Prop := ∀ (H : Hp) (Q : VK), (∀ L ts H', Same H H' → H L = none → H' L = some (.lst (ts.map V.ref)) → EntAt H' ts rss → Q (.ref L) H') → te σ H Q
end
/-! the menu of known books, tables of products -/
def knownL (a b : Str) : List (List (Str × Str)) := [[(a ++ a ++ a, a)], [(a ++ a, "")], [(a ++ a ++ a, "")], [(a ++ a, a)], [(a ++ b ++ a, a)], [(b ++ a, a)], [(a ++ b, a), (b ++ b, b)], [(a ++ b ++ b, a)],
  [(a ++ b, ""), (b ++ a, ""), (a ++ a, b), (b ++ b, a)], [(a ++ b, a), (a ++ a, a)], [(a ++ b ++ a ++ b, "")], [(a ++ b, b), (a ++ a, a)]]
def menu8 : List Str := ["ab", "abc", "ac", "bz", "a", "bcd", "kmz", "xy"]
abbrev sg1 (sg : Str) (i : Nat) : Str := ⟨#[(cl sg).getD i 0]⟩
def tableAt (m i j : Int) : List Int := [i, j, if j > i then j else i, 0, if j < i then j else i, m - 1, (i + j + 2).fmod (m + 1) - 1, (i + j + 2).fmod (m + 1) - 1]
def tcell (sg : Str) (k i j : Nat) : Str × Str := (sg1 sg i ++ sg1 sg j, if (tableAt sg.length i j).getD k 0 < 0 then "" else sg1 sg ((tableAt sg.length i j).getD k 0).toNat)
def trow (sg : Str) (k i j : Nat) : List (Str × Str) := (List.range j).map (tcell sg k i)
def tabTo (sg : Str) (k i : Nat) : List (Str × Str) := (List.range i).flatMap fun i' => trow sg k i' sg.length
def pairsL (a b : Str) : List (Str × Str) := [(a ++ b, ""), (b ++ a, "")]
def ruleOkB (sg : Str) (p : Str × Str) : Bool := decide (p.1.length ≤ 4) && decide (p.2.length ≤ 1) && decide (p.2.length < p.1.length) && (cl p.1).all (fun c => decide (c ∈ cl sg)) && (cl p.2).all (fun c => decide (c ∈ cl sg))
/-- rules fit for a book over these signs -/
def bookB (sg : Str) (rs : List (Str × Str)) : Bool := rs.all (ruleOkB sg) && decide rs.Nodup && decide (rs.length ≤ 9)
/-! how far the law has looked -/
def LawTo (rs : List (Str × Str)) (i j k : Nat) : Prop := ∀ i' j' k', (i' < i ∨ (i' = i ∧ (j' < j ∨ (j' = j ∧ k' < k)))) → ∀ p q, rs[i']? = some p → rs[j']? = some q → k' < p.1.length → lawOk rs (cl p.1) (cl p.2) (cl q.1) (cl q.2) k'
def ToldOk (rs : List (Str × Str)) (i j k : Nat) (v : V) : Prop := (v = .non ∧ LawTo rs i j k) ∨ ∃ z, v = .str z ∧ z.length ≤ 8
theorem ToldOk.imp {rs : List (Str × Str)} {i j k i' j' k' : Nat} {v : V} (h : ToldOk rs i j k v) (f : LawTo rs i j k → LawTo rs i' j' k') : ToldOk rs i' j' k' v := Or.imp (fun ⟨a, b⟩ => ⟨a, f b⟩) id h
theorem goodOf {sg : Str} {ps : List (Str × Str)} (h : ∀ p ∈ ps, RuleOk sg p.1 p.2) : Good ps := fun p hp => ⟨(h p hp).l4, (h p hp).r1, (h p hp).lt⟩
/-- the rules of a settled book over these signs -/
structure BookR (sg : Str) (rs : List (Str × Str)) : Prop where
  ok : ∀ p ∈ rs, RuleOk sg p.1 p.2
  nd : rs.Nodup
  le : rs.length ≤ 9
  law : LawSet rs
theorem BookR.good {sg : Str} {rs : List (Str × Str)} (h : BookR sg rs) : Good rs := goodOf h.ok
theorem BookR.set {sg : Str} {rs : List (Str × Str)} (h : BookR sg rs) : Settled rs := settled_of h.good h.law
instance {rs : List (Str × Str)} : Decidable (Good rs) := by unfold Good; infer_instance
def rReprB (K : PySem.W.Frag) : List V → Hp → VK → Prop := fun xs H Q => rReprU K xs H Q ∨ ∃ b, xs = [.bl b] ∧ Q (.str (if b then "True" else "False")) H
theorem wc_reprB {X : Cx} {K : PySem.W.Frag} (hg : X.A.guards = some []) (hu : X.A.units + 65 < cLine) (hK : X.K = K := by rfl) : CallR X (.builtin "repr") (rReprB K) := by
  intro pins s σ H xs us Q I r h
  rcases h with h | ⟨b, rfl, q⟩
  · exact wc_reprU hg hu hK pins s σ H xs us Q I r h
  · obtain ⟨u, rfl, ru⟩ := vals1 r
    cases ru
    exact PySem.P.repr_of_bool ⟨.str _, H, I.tok _, ⟨_, rfl⟩, q⟩
end Bk
namespace Wp
open PySem PySem.Spec PyProof.Rows L2
theorem par {i j : Nat} {ta : TA} {D : Ends} {σ : L2.St} {H : Hp} (h : ta σ H fun vs H1 => ∃ v w, vs = [v, w] ∧ D.nx ((σ.set i (some v)).set j (some w)) H1) : tPar i j ta D σ H := h
theorem parV {v w : V} {P : V → V → Prop} (h : P v w) : ∃ v' w', [v, w] = [v', w'] ∧ P v' w' := ⟨v, w, rfl, h⟩
end Wp
set_option Elab.async false
set_option linter.all false
set_option maxRecDepth 100000
set_option maxHeartbeats 2000000
namespace Bk
open PySem PySem.Spec PyProof.Rows L2
/-! the truth of an own object, told by its __bool__; bool(o), not o -/
structure BoolC (K : PySem.W.Frag) (C g : Addr) : Prop where
  at_ : PySem.W.findIn K (.ref C) "__bool__" = some (some (.ref g))
  fn : PySem.W.isFn K (.ref g) = true
section
variable {X : Cx} {pins : List (Addr × Obj)} {σ : L2.St} {H : Hp} {s : Shared} {k : Nat} {g a C dx : Addr} {fs : List (Str × V)} {sp : Sp}
theorem truthy_own {A1 : Around} {Q : Bool → Hp → Prop} {E' : Value → Shared → Prop} (I : Inv X pins σ H s) (ea : H a = some (.ins C dx fs)) (c : BoolC X.K C g) (F : FnR X.prog X.w X.K X.mg X.base CX0 k g sp)
    (hr : Room k A1) (e0 : Env0 X.prog X.w X.K X.mg X.base A1 X.stack s H) (h : sp [.ref a] H (fun v H' => ∃ b, v = .bl b ∧ Q b H') E0) :
    wpAny (model X.prog X.w) A1 (truthy (.ref a)) (fun b s' => ∃ H', Inv X pins σ H' s' ∧ Q b H') E' s := by
  obtain ⟨mA, O, _⟩ := ins_get I.hok ea
  obtain ⟨od, J, _⟩ := O.look
  unfold truthy
  refine wpAny_bind (m := callSpecial? (.ref a) (Str.ofString "__bool__")) (PySem.W.special_fn I.kIn J c.at_ (beq_iff_eq.mp c.fn) (wpAny_call (codeAny_mono (F A1 X.stack s H [.ref a] [.ref a] _ E0 hr e0 (.cons rfl .nil) h) fun r s' hq => ?_)))
  cases r with
  | error er => exact False.elim (pass0 (X := X.nox) pins σ H s er s' (I.wish _) hq)
  | ok fl =>
    cases fl with
    | ret u =>
      obtain ⟨v, H', I3, rv, b, eb, q3⟩ := I.after hq
      subst eb
      cases rv
      exact wpAny_pure ⟨H', I3, q3⟩
    | next => exact False.elim hq
    | brk => exact False.elim hq
    | cont => exact False.elim hq
end
section
variable {X : Cx} {k : Nat} {g C : Addr} {sp : Sp}
def rBoolO (C : Addr) (sp : Sp) : List V → Hp → VK → Prop := fun xs H Q => ∃ a dx fs, xs = [V.ref a] ∧ H a = some (.ins C dx fs) ∧ sp [.ref a] H (fun v H' => ∃ b, v = .bl b ∧ Q (.bl b) H') E0
/-- an own object as a test -/
def tTruO (C : Addr) (sp : Sp) (ta : TE) : TT := fun σ H Q => ta σ H fun x H' => ∃ a dx fs, x = .ref a ∧ H' a = some (.ins C dx fs) ∧ sp [.ref a] H' (fun v H2 => ∃ b, v = .bl b ∧ Q b H2) E0
theorem pt_truO {e : Expr} {ta : TE} (ha : PE X e ta) (c : BoolC X.K C g) (F : FnR X.prog X.w X.K X.mg X.base CX0 k g sp) (hr : Room k X.A) (he : ∀ whole, isTrue e X.env whole = (do let v ← whole; standAt e.pos; holding [v] (truthy v))) : PT X e (tTruO C sp ta) := by
  refine ⟨fun pins s σ H Q I h => isTrue_plain (thn (ha.run pins s σ H _ I h) fun v s1 ⟨x, H1, I1, r1, a, dx, fs, ex, ea, q⟩ => ?_) (he _)⟩
  subst ex
  obtain rfl : v = Value.ref a := r1
  refine wpAny_mono (truthy_own I1 ea c F hr I1.env0 q) (fun b s' ⟨H', I', q'⟩ => ⟨H', I', q'⟩) fun _ _ z => z
/-- not o -/
def tNotO (C : Addr) (sp : Sp) (ta : TE) : TE := fun σ H Q => ta σ H fun x H' => ∃ a dx fs, x = .ref a ∧ H' a = some (.ins C dx fs) ∧ sp [.ref a] H' (fun v H2 => ∃ b, v = .bl b ∧ Q (.bl (!b)) H2) E0
end
theorem wc_any {X : Cx} {K : PySem.W.Frag} (hc : X.calm = true) (hK : X.K = K := by rfl) : CallR X (.builtin "any") (rAny K) := by subst hK; exact cr_any hc
/-- a comprehension over a list or a tuple -/
theorem iu_lc {K : PySem.W.Frag} {σ : L2.St} {H : Hp} {Q : VK} {g : TG} {tt : TT} {te : TE} {vs : List Nat} {i : Nat} {t : Addr} {xs : List V} (e : σ[i]? = some (some (.ref t))) (h : RowAt H t xs)
    (hh : ∀ A, H A = none → ∃ Pv : Nat → Hp → Prop, Pv 0 (upd H A (.lst [])) ∧ (∀ j H1, Pv j H1 → Same H H1) ∧ (∀ j x H1, xs[j]? = some x → Pv j H1 → g x (wipe σ vs) H1 fun σ2 H2 => wipe σ2 vs = wipe σ vs ∧ tt σ2 H2 fun b H3 =>
      if b = true then te σ2 H3 fun y H4 => ∃ acc, H4 A = some (.lst acc) ∧ acc.length < sizeLine ∧ Pv (j + 1) (upd H4 A (.lst (acc ++ [y]))) else Pv (j + 1) H3) ∧ ∀ H1, Pv xs.length H1 → Q (.ref A) H1) :
    iU K (tVar i) σ H fun J H1 => ∀ A, H1 A = none → Wp.LCg J g tt te vs σ Q H1 A := by
  rcases h with h | h
  · refine .inl ⟨_, e, t, rfl, ⟨_, SqL.of h⟩, fun A hA => ?_⟩
    obtain ⟨Pv, h0, hG, hs, hd⟩ := hh A hA
    refine Wp.lcIt (walk_list (xs := xs)) Pv h0 (fun j H1 _ hp => SqL.of (hG j H1 hp _ _ h)) ?_ hd
    rintro j x H1 H1' _ hp ⟨rfl, hx⟩
    exact hs j x H1' hx hp
  · refine .inr ⟨_, e, t, rfl, ⟨_, SqT.of h⟩, fun A hA => ?_⟩
    obtain ⟨Pv, h0, hG, hs, hd⟩ := hh A hA
    refine Wp.lcIt (walk_tup (xs := xs)) Pv h0 (fun j H1 _ hp => SqT.of (hG j H1 hp _ _ h)) ?_ hd
    rintro j x H1 H1' _ hp ⟨rfl, hx⟩
    exact hs j x H1' hx hp
/-! all ends of a size, sign by sign -/
def fitsEnd (rs : List (Str × Str)) (u : List Nat) : Bool := rs.any fun r => ends u r.1
def longerOf (rs : List (Str × Str)) (sg t : List Nat) : List (List Nat) := (sg.map fun c => t ++ [c]).filter fun u => !fitsEnd rs u
def longer (rs : List (Str × Str)) (sg : List Nat) (lv : List (List Nat)) : List (List Nat) := lv.flatMap (longerOf rs sg)
def levs (rs : List (Str × Str)) (sg : List Nat) : Nat → List (List Nat)
  | 0 => [[]]
  | k + 1 => longer rs sg (levs rs sg k)
def endsUp (rs : List (Str × Str)) (sg : List Nat) (n : Nat) : List (List Nat) := (List.range (n + 1)).flatMap (levs rs sg)
abbrev tx (l : List (List Nat)) : List V := l.map fun t => V.str (mkS t)
theorem tx_app (a b : List (List Nat)) : tx (a ++ b) = tx a ++ tx b := List.map_append
theorem endsUp_succ {rs : List (Str × Str)} {sg : List Nat} {n : Nat} : endsUp rs sg (n + 1) = endsUp rs sg n ++ levs rs sg (n + 1) := by
  unfold endsUp
  rw [List.range_succ, List.flatMap_append]; simp
theorem longerOf_len {rs : List (Str × Str)} {sg t : List Nat} : (longerOf rs sg t).length ≤ sg.length := by
  refine Nat.le_trans (List.length_filter_le _ _) ?_
  rw [List.length_map]; exact Nat.le_refl _
theorem levs_len {rs : List (Str × Str)} {sg : List Nat} (h : sg.length ≤ 3) : ∀ k, (levs rs sg k).length ≤ 3 ^ k
  | 0 => by simp [levs]
  | k + 1 => by
    show (longer rs sg (levs rs sg k)).length ≤ 3 ^ k * 3
    refine Nat.le_trans (flat_len (c := 3) _ fun t _ => Nat.le_trans longerOf_len h) ?_
    exact Nat.mul_le_mul_right 3 (levs_len h k)
theorem levs_size {rs : List (Str × Str)} {sg : List Nat} : ∀ (k : Nat), ∀ t ∈ levs rs sg k, t.length = k
  | 0, t, h => by rw [List.mem_singleton.mp h]; rfl
  | k + 1, t, h => by
    obtain ⟨u, hu, h2⟩ := List.mem_flatMap.mp (show t ∈ longer rs sg (levs rs sg k) from h)
    obtain ⟨c, hc, rfl⟩ := List.mem_map.mp (List.mem_filter.mp h2).1
    rw [List.length_append, levs_size k u hu]; rfl
theorem pow3_le {k : Nat} (h : k ≤ 5) : 3 ^ k ≤ 243 := Nat.pow_le_pow_right (by decide) h
theorem endsUp_len {rs : List (Str × Str)} {sg : List Nat} (h : sg.length ≤ 3) {n : Nat} (hn : n ≤ 5) : (endsUp rs sg n).length ≤ 1458 := by
  refine Nat.le_trans (flat_len (c := 243) _ fun k hk => Nat.le_trans (levs_len h k) (pow3_le (by have := List.mem_range.mp hk; omega))) ?_
  rw [List.length_range]; omega
theorem longer_take {rs : List (Str × Str)} {sg : List Nat} {lv : List (List Nat)} {i : Nat} {t : List Nat} (h : lv[i]? = some t) : longer rs sg (lv.take (i + 1)) = longer rs sg (lv.take i) ++ longerOf rs sg t := by
  unfold longer
  rw [List.take_add_one, h, List.flatMap_append]; simp
theorem longerOf_take {rs : List (Str × Str)} {sg t : List Nat} {j c : Nat} (h : sg[j]? = some c) : longerOf rs (sg.take (j + 1)) t = longerOf rs (sg.take j) t ++ if fitsEnd rs (t ++ [c]) = true then [] else [t ++ [c]] := by
  unfold longerOf
  rw [List.take_add_one, h, List.map_append, List.filter_append]
  congr 1
  by_cases e : fitsEnd rs (t ++ [c]) = true
  · rw [if_pos e]; simp [e]
  · rw [if_neg e]; simp [e]
theorem all_up {sg : List Nat} {n : Nat} {u : List Nat} (h : ∀ c ∈ u, c ∈ sg) (hl : u.length ≤ n) : u ∈ endsUp [] sg n := by
  have : ∀ (k : Nat) (u : List Nat), u.length = k → (∀ c ∈ u, c ∈ sg) → u ∈ levs [] sg k := by
    intro k
    induction k with
    | zero => intro u hu _; rw [List.length_eq_zero_iff.mp hu]; exact List.mem_singleton.mpr rfl
    | succ k ih =>
      intro u hu h
      rcases List.eq_nil_or_concat u with z | ⟨u', c, z⟩
      · subst z; cases hu
      · rw [List.concat_eq_append] at z
        subst z
        rw [List.length_append] at hu
        refine List.mem_flatMap.mpr ⟨u', ih u' (by simpa using hu) fun c hc => h c (List.mem_append.mpr (.inl hc)), List.mem_filter.mpr ⟨List.mem_map.mpr ⟨c, h c (by simp), rfl⟩, by simp [fitsEnd]⟩⟩
  exact List.mem_flatMap.mpr ⟨u.length, List.mem_range.mpr (by omega), this _ _ rfl h⟩
end Bk
set_option Elab.async false
set_option linter.all false
set_option maxRecDepth 100000
namespace Bk
open PySem PySem.Spec PyProof.Rows L2
open Cf (Step Star)
theorem mk_iff {a b : List Nat} : mkS a = mkS b ↔ a = b := ⟨fun h => by have := congrArg cl h; rw [cl_mk, cl_mk] at this; exact this, fun h => by rw [h]⟩
theorem star_over {rs : List (Str × Str)} {S : List Nat} (h : ∀ p ∈ rs, ∀ c ∈ cl p.2, c ∈ S) {u v : List Nat} (s : Star (RR rs) u v) : (∀ c ∈ u, c ∈ S) → ∀ c ∈ v, c ∈ S := by
  induction s with
  | refl => exact id
  | head s _ ih =>
    intro hu
    refine ih fun c hc => ?_
    obtain ⟨x, l, r, y, ⟨p, hp, e1, e2⟩, rfl, rfl⟩ := s
    rcases List.mem_append.mp hc with z | z
    · rcases List.mem_append.mp z with z | z
      · exact hu c (by simp [z])
      · exact h p hp c (by rw [e2]; exact z)
    · exact hu c (by simp [z])
theorem length_putK_new {kvs : List (Key × V)} {k : Key} {v : V} (h : valV kvs k = none) : (putK kvs k v).length = kvs.length + 1 := by
  have e : (kvs.any fun kv => decide (kv.1 = k)) = false := by rw [valV_any, h]; rfl
  unfold putK
  rw [e, if_neg Bool.false_ne_true, List.length_append]; rfl
/-! a search through all texts below one -/
def fnd (kvs : List (Key × V)) (u : List Nat) : Prop := (valV kvs (Sum.inr (mkS u))).isSome = true
instance {kvs : List (Key × V)} {u : List Nat} : Decidable (fnd kvs u) := by unfold fnd; infer_instance
theorem fnd_put {kvs : List (Key × V)} {u w : List Nat} {v : V} : fnd (putK kvs (Sum.inr (mkS u)) v) w ↔ w = u ∨ fnd kvs w := by
  unfold fnd
  rw [valV_put]
  by_cases h : w = u
  · subst h; rw [if_pos rfl]; simp
  · rw [if_neg (fun z => h (mk_iff.mp (Sum.inr.inj z)))]
    exact ⟨.inr, fun z => z.resolve_left h⟩
def unf (all : List (List Nat)) (kvs : List (Key × V)) : Nat := (all.filter fun u => !decide (fnd kvs u)).length
theorem filter_less {α : Type} {p q : α → Bool} {x : α} (hpq : ∀ y, q y = true → p y = true) (hp : p x = true) (hq : q x = false) : ∀ {l : List α}, x ∈ l → (l.filter q).length + 1 ≤ (l.filter p).length
  | [], h => nomatch h
  | y :: l, h => by
    have mono : ∀ l : List α, (l.filter q).length ≤ (l.filter p).length := by
      intro l
      induction l with
      | nil => exact Nat.le_refl _
      | cons z l ih =>
        rw [List.filter_cons, List.filter_cons]
        cases hz : q z with
        | true => rw [hpq z hz]; simpa using ih
        | false => cases p z <;> simp <;> omega
    rw [List.filter_cons, List.filter_cons]
    rcases List.mem_cons.mp h with z | z
    · subst z
      rw [hp, hq]
      simp
      exact mono l
    · have ih := filter_less hpq hp hq z
      cases hz : q y with
      | true => rw [hpq y hz]; simpa using ih
      | false => cases p y <;> simp <;> omega
theorem unf_put {all : List (List Nat)} {kvs : List (Key × V)} {u : List Nat} {v : V} (hu : u ∈ all) (h : ¬ fnd kvs u) : unf all (putK kvs (Sum.inr (mkS u)) v) + 1 ≤ unf all kvs := by
  refine filter_less (p := fun u => !decide (fnd kvs u)) (q := fun w => !decide (fnd (putK kvs (Sum.inr (mkS u)) v) w)) (x := u) (fun y hy => ?_) (by simpa using h) (by simp [fnd_put]) hu
  simp only [Bool.not_eq_true', decide_eq_false_iff_not, fnd_put, not_or] at hy
  simpa using hy.2
structure Rch (rs : List (Str × Str)) (all : List (List Nat)) (z : List Nat) (ok : List Nat → Prop) (kvs : List (Key × V)) (wl : List (List Nat)) (ex : List Nat → Prop) : Prop where
  st : ∀ u, fnd kvs u → Star (RR rs) z u
  w : ∀ u ∈ wl, fnd kvs u
  c : ∀ u, fnd kvs u → u ∉ wl → ex u ∨ (ok u ∧ ∀ v, Step (RR rs) u v → fnd kvs v)
  z : fnd kvs z
  sz : kvs.length + unf all kvs ≤ all.length
  wz : wl.length ≤ kvs.length
theorem Rch.pop {rs : List (Str × Str)} {all : List (List Nat)} {z u0 : List Nat} {ok : List Nat → Prop} {kvs : List (Key × V)} {wl : List (List Nat)} (x : Rch rs all z ok kvs (wl ++ [u0]) fun _ => False) : Rch rs all z ok kvs wl (· = u0) := by
  refine ⟨x.st, fun u hu => x.w u (List.mem_append.mpr (.inl hu)), fun u hu hw => ?_, x.z, x.sz, by have := x.wz; rw [List.length_append] at this; omega⟩
  by_cases e : u = u0
  · exact .inl e
  · refine .inr ((x.c u hu fun h => ?_).resolve_left id)
    rcases List.mem_append.mp h with h | h
    · exact hw h
    · exact e (List.mem_singleton.mp h)
theorem Rch.push {rs : List (Str × Str)} {all : List (List Nat)} {z v : List Nat} {ok ex : List Nat → Prop} {kvs : List (Key × V)} {wl : List (List Nat)} {y : V} (x : Rch rs all z ok kvs wl ex) (hv : ¬ fnd kvs v) (hs : Star (RR rs) z v) (ha : v ∈ all) :
    Rch rs all z ok (putK kvs (Sum.inr (mkS v)) y) (wl ++ [v]) ex ∧ 2 * unf all (putK kvs (Sum.inr (mkS v)) y) + (wl ++ [v]).length < 2 * unf all kvs + wl.length := by
  have h1 := unf_put (v := y) ha hv
  have h2 : (putK kvs (Sum.inr (mkS v)) y).length = kvs.length + 1 := by
    have hn : valV kvs (Sum.inr (mkS v)) = none := by
      cases e : valV kvs (Sum.inr (mkS v)) with
      | none => rfl
      | some _ => exact absurd (show fnd kvs v by unfold fnd; rw [e]; rfl) hv
    exact length_putK_new hn
  refine ⟨⟨fun u hu => ?_, fun u hu => ?_, fun u hu hw => ?_, fnd_put.mpr (.inr x.z), by rw [h2]; have := x.sz; omega, by rw [h2, List.length_append]; have := x.wz; simp; omega⟩, by rw [List.length_append]; simp; omega⟩
  · rcases fnd_put.mp hu with e | e
    · rw [e]; exact hs
    · exact x.st u e
  · rcases List.mem_append.mp hu with e | e
    · exact fnd_put.mpr (.inr (x.w u e))
    · exact fnd_put.mpr (.inl (List.mem_singleton.mp e))
  · rcases fnd_put.mp hu with e | e
    · exact absurd (List.mem_append.mpr (.inr (List.mem_singleton.mpr e))) hw
    · exact (x.c u e fun h => hw (List.mem_append.mpr (.inl h))).imp id fun ⟨a, b⟩ => ⟨a, fun v hv => fnd_put.mpr (.inr (b v hv))⟩
theorem Rch.done {rs : List (Str × Str)} {all : List (List Nat)} {z u0 : List Nat} {ok : List Nat → Prop} {kvs : List (Key × V)} {wl : List (List Nat)} (x : Rch rs all z ok kvs wl (· = u0)) (h0 : ok u0) (h : ∀ v, Step (RR rs) u0 v → fnd kvs v) : Rch rs all z ok kvs wl fun _ => False :=
  ⟨x.st, x.w, fun u hu hw => .inr ((x.c u hu hw).elim (fun e => by subst e; exact ⟨h0, h⟩) id), x.z, x.sz, x.wz⟩
theorem Rch.all {rs : List (Str × Str)} {all : List (List Nat)} {z : List Nat} {ok : List Nat → Prop} {kvs : List (Key × V)} (x : Rch rs all z ok kvs [] fun _ => False) {u : List Nat} (s : Star (RR rs) z u) : fnd kvs u ∧ ok u := by
  have h : ∀ {v w : List Nat}, Star (RR rs) v w → fnd kvs v → fnd kvs w := by
    intro v w s
    induction s with
    | refl => exact id
    | head s _ ih => exact fun hv => ih (((x.c _ hv (by simp)).resolve_left id).2 _ s)
  have h2 := h s x.z
  exact ⟨h2, ((x.c _ h2 (by simp)).resolve_left id).1⟩
end Bk
namespace Bk
open PySem PySem.Spec PyProof.Rows L2
/-- an instance is called, also in a comprehension -/
def tCallD (C : Addr) (sp : Sp) (E : XK) (tf : TE) (t : TA) : TE := fun σ H Q => tf σ H fun y H1 => ∃ a, y = V.ref a ∧ t σ H1 fun vs H2 => ((∃ dx vs, SlX.Slt H2 a C dx vs) ∨ ∃ dx fs, H2 a = some (.ins C dx fs)) ∧ sp (V.ref a :: vs) H2 Q E
end Bk
set_option Elab.async false
set_option linter.all false
set_option maxRecDepth 100000
namespace Bk
open PySem PySem.Spec PyProof.Rows L2
/-! texts in their order: by length, then by their signs -/
def tx2 (z : Str) : PyData := .tuple [.int (z.length : Nat), .str z]
def dec2 : PyData → List Nat
  | .tuple [.int _, .str z] => cl z
  | _ => []
def txLe (x y : List Nat) : Bool := decide (x.length < y.length ∨ (x.length = y.length ∧ x ≤ y))
/-- ascending -/
def asc (us : List (List Nat)) : List (List Nat) := us.mergeSort txLe
theorem txLe_iff {x y : List Nat} : txLe x y = true ↔ x.length < y.length ∨ (x.length = y.length ∧ x ≤ y) := by unfold txLe; rw [decide_eq_true_iff]
theorem txLe_trans (x y z : List Nat) (h : txLe x y = true) (k : txLe y z = true) : txLe x z = true := by
  rw [txLe_iff] at h k ⊢
  rcases h with h | ⟨h, h2⟩ <;> rcases k with k | ⟨k, k2⟩
  · left; omega
  · left; omega
  · left; omega
  · right; exact ⟨by omega, List.le_trans h2 k2⟩
theorem txLe_total (x y : List Nat) : (txLe x y || txLe y x) = true := by
  rw [Bool.or_eq_true, txLe_iff, txLe_iff]
  rcases Nat.lt_trichotomy x.length y.length with h | h | h
  · left; left; exact h
  · rcases List.le_total x y with k | k
    · left; right; exact ⟨h, k⟩
    · right; right; exact ⟨h.symm, k⟩
  · right; left; exact h
theorem txLe_anti {x y : List Nat} (h : txLe x y = true) (k : txLe y x = true) : x = y := by
  rw [txLe_iff] at h k
  rcases h with h | ⟨h, h2⟩
  · rcases k with k | ⟨k, _⟩ <;> omega
  · rcases k with k | ⟨_, k2⟩
    · omega
    · exact List.le_antisymm h2 k2
theorem asc_perm (us : List (List Nat)) : (asc us).Perm us := List.mergeSort_perm _ _
theorem asc_sorted (us : List (List Nat)) : (asc us).Pairwise fun x y => txLe x y = true := List.pairwise_mergeSort txLe_trans txLe_total us
theorem asc_mem {us : List (List Nat)} {u : List Nat} : u ∈ asc us ↔ u ∈ us := (asc_perm us).mem_iff
theorem dataLt_tx (x y : Str) : PySem.W.dataLt (tx2 x) (tx2 y) = decide ((cl x).length < (cl y).length ∨ ((cl x).length = (cl y).length ∧ cl x < cl y)) := by
  unfold tx2
  rw [PySem.W.dataLt_pair (by simp [PySem.W.alike]) (by simp [PySem.W.alike]), PySem.W.dataLt_int, PySem.W.dataLt_str, len_cl, len_cl]
  simp only [PyData.eqv, beq_iff_eq]
  have e : (x.cps.toList < y.cps.toList) = (cl x < cl y) := rfl
  by_cases h1 : ((x.length : Nat) : Int) = (y.length : Nat)
  · have h1' : x.length = y.length := by omega
    rw [if_pos h1]
    by_cases h2 : x = y
    · subst h2; simp
    · simp only [if_neg h2, h1', Nat.lt_irrefl, false_or, true_and]
  · have h1' : ¬ x.length = y.length := by omega
    rw [if_neg h1]
    simp [h1']
theorem dataLe_tx (x y : Str) : (!PySem.W.dataLt (tx2 y) (tx2 x)) = txLe (cl x) (cl y) := by
  rw [dataLt_tx, Bool.eq_iff_iff, txLe_iff, Bool.not_eq_true', decide_eq_false_iff_not]
  constructor
  · intro h
    rcases Nat.lt_trichotomy (cl x).length (cl y).length with k | k | k
    · exact .inl k
    · exact .inr ⟨k, List.not_lt.mp fun z => h (.inr ⟨k.symm, z⟩)⟩
    · exact absurd (.inl k) h
  · rintro (h | ⟨h, h2⟩) (k | ⟨k, k2⟩)
    · omega
    · omega
    · omega
    · exact List.not_lt.mpr h2 k2
theorem tx_sorted {ws : List V} {xs : List Str} (hl : ws.length = xs.length) : ((ws.zip (xs.map tx2)).mergeSort (PySem.W.dataLe false Prod.snd)).map (fun q => dec2 q.2) = asc (xs.map cl) := by
  have hm : ∀ q ∈ ws.zip (xs.map tx2), ∃ z, q.2 = tx2 z := fun q hq => by
    obtain ⟨z, _, e⟩ := List.mem_map.mp (List.of_mem_zip (show (q.1, q.2) ∈ ws.zip (xs.map tx2) from hq)).2
    exact ⟨z, e.symm⟩
  rw [List.map_mergeSort (s := txLe)]
  · congr 1
    have h1 : ((ws.zip (xs.map tx2)).map Prod.snd).map dec2 = xs.map cl := by
      rw [List.map_snd_zip (by rw [List.length_map]; omega), List.map_map]
      exact List.map_congr_left fun z _ => rfl
    rwa [List.map_map] at h1
  · intro a ha b hb
    obtain ⟨x, ex⟩ := hm a ha
    obtain ⟨y, ey⟩ := hm b hb
    show (!PySem.W.dataLt b.2 a.2) = txLe (dec2 a.2) (dec2 b.2)
    rw [ex, ey]
    exact dataLe_tx x y
theorem tx2s_no : ∀ xs : List Str, Wp.noLA (xs.map tx2) = true
  | [] => rfl
  | x :: xs => by
    show (Wp.noL (tx2 x) && Wp.noLA (xs.map tx2)) = true
    rw [tx2s_no xs]; rfl
theorem tx2_alike (xs : List Str) : PySem.W.AllAlike (xs.map tx2) := fun d hd d' hd' => by
  obtain ⟨x, _, rfl⟩ := List.mem_map.mp hd
  obtain ⟨y, _, rfl⟩ := List.mem_map.mp hd'
  simp [tx2, PySem.W.alike, PySem.W.alikeAll]
theorem tx2_sortable (xs : List Str) : PySem.W.Sortable (xs.map tx2) := .inl fun d hd => by
  obtain ⟨x, _, rfl⟩ := List.mem_map.mp hd
  simp [tx2]
theorem tx2_depth (z : Str) : (tx2 z).depth ≤ 60 := by simp [tx2, PyData.depth, PyData.depthAll]
end Bk
namespace Wp
open PySem PySem.Spec PyProof.Rows L2
end Wp
set_option Elab.async false
set_option linter.all false
set_option maxRecDepth 100000
namespace Bk
open PySem PySem.Spec PyProof.Rows L2
open Cf (Step Star Nf)
/-- a proper piece of u is one of these texts -/
def properP (L : List Str) (u : List Nat) : Prop := ∃ x w y, u = x ++ w ++ y ∧ w ≠ [] ∧ w.length < u.length ∧ mkS w ∈ L
/-- the least left sides -/
structure LeastL (rs : List (Str × Str)) (ls : List (List Nat)) : Prop where
  srt : ls.Pairwise fun x y => txLe x y = true
  nd : ls.Nodup
  mem : ∀ l, l ∈ ls ↔ (∃ p ∈ rs, cl p.1 = l) ∧ ¬ properP (rs.map (·.1)) l
def leastR (rs : List (Str × Str)) (ls : List (List Nat)) : List (Str × Str) := ls.map fun l => (mkS l, mkS (overP rs l))
/-- what is told of two books' ends -/
def SameDue (rs rs2 : List (Str × Str)) : Option (List Nat) → Prop
  | none => ∀ u, overP rs u = overP rs2 u
  | some u => overP rs u ≠ overP rs2 u ∧ ∀ v, txLe v u = true → v ≠ u → overP rs v = overP rs2 v
end Bk
set_option Elab.async false
set_option linter.all false
set_option maxRecDepth 100000
namespace Bk
open PySem PySem.Spec PyProof.Rows L2
end Bk
namespace Wp
open PySem PySem.Spec PyProof.Rows L2
def DCg (J : It) (g : TG) (tt : TT) (tk tv : TE) (vs : List Nat) (σ : L2.St) (Q : VK) (H1 : Hp) (D : Addr) : Prop := ∃ W : Nat → Nat → Hp → Prop, (∃ m, W 0 m (upd H1 D (.dK []))) ∧ ∀ i m H, W i m H →
  (J.stop i H ∧ Q (.ref D) H) ∨ (J.go i H ∧ ∃ Nx : Hp → Prop, (∀ H', Nx H' → ∃ m', m' < m ∧ W (i + 1) m' H') ∧ ∀ x H', J.yld i H x H' → g x (wipe σ vs) H' fun σ2 H2 => wipe σ2 vs = wipe σ vs ∧ tt σ2 H2 fun b H3 =>
    if b = true then tk σ2 H3 fun y H4 => tv σ2 H4 fun z H5 => ∃ kvs k, y = kV k ∧ H5 D = some (.dK kvs) ∧ kvs.length < sizeLine ∧ Nx (upd H5 D (.dK (putK kvs k z))) else Nx H3)
end Wp
set_option Elab.async false
set_option linter.all false
set_option maxRecDepth 100000
set_option maxHeartbeats 4000000
namespace Bk
open PySem PySem.Spec PyProof.Rows L2
/-! t[::-1], t a tuple -/
section
variable {prog : Program} {w : World} {A : Around} {E : Value → Shared → Prop} {s : Shared}
end
def tRevT (K : PySem.W.Frag) (te : TE) : TE := fun σ H Q => te σ H fun x H1 => ∃ a xs, x = .ref a ∧ SqT K H1 a xs ∧ ∀ p, H1 p = none → Q (.ref p) (upd H1 p (.tup xs.reverse))
theorem revT {K : PySem.W.Frag} {te : TE} {σ : L2.St} {H : Hp} {Q : VK} (h : te σ H fun x H1 => ∃ a xs, x = .ref a ∧ SqT K H1 a xs ∧ ∀ p, H1 p = none → Q (.ref p) (upd H1 p (.tup xs.reverse))) : tRevT K te σ H Q := h
/-! == of instances with an own __eq__ -/
structure EqC (K : PySem.W.Frag) (C f : Addr) : Prop where
  a : PySem.W.findIn K (.ref C) "__eq__" = some (some (.ref f))
  n : PySem.W.isFn K (.ref f) = true
def rEqO (C : Addr) (sp : Sp) : R2 := fun x y H Q => ∃ a b dx dy fs gs, x = .ref a ∧ y = .ref b ∧ H a = some (.ins C dx fs) ∧ H b = some (.ins C dy gs) ∧ sp [.ref a, .ref b] H (fun v H' => ∃ k, v = .bl k ∧ Q (.bl k) H') E0
end Bk
set_option Elab.async false
set_option linter.all false
set_option maxRecDepth 100000
namespace Bk
open PySem PySem.Spec PyProof.Rows L2
/-! several except clauses, with names or without, of which one always fits -/
def clA (o : Option Nat) (ts : Addr → Value → Option Addr → TS) (a : Addr) (cls : Value) (d : Option Addr) (D : Ends) (σ : L2.St) (H : Hp) : Prop := match o with
  | none => ts a cls d D σ H
  | some i => ts a cls d { nx := fun σ' H' => D.nx (σ'.set i none) H', rt := D.rt, bk := fun σ' H' => D.bk (σ'.set i none) H', ct := fun σ' H' => D.ct (σ'.set i none) H' } (σ.set i (some (.ref a))) H
/-- a clause: the class that it names, the slot of its name, its suite -/
abbrev Cla := Value × Option Nat × (Addr → Value → Option Addr → TS)
def wMA (K : PySem.W.Frag) (D : Ends) : List Cla → WX
  | [] => fun _ _ _ _ => False
  | (c, o, ts) :: r => fun cls d σ H => ∃ b, PySem.W.exmOne K cls c = some b ∧ (b = true → ∀ a, H a = none → clA o ts a cls d D σ H) ∧ (b = false → wMA K D r cls d σ H)
/-- the name of a clause stands in the slot -/
def NameAt (X : Cx) : Option Str → Option Nat → Prop
  | none, none => True
  | some n, some i => X.N[i]? = some n ∧ X.env.kindOf n = some .local
  | _, _ => False
inductive HdsA (X : Cx) : List ExceptHandler → List Cla → Prop
  | nil : HdsA X [] []
  | cons {x : Str} {n : Option Str} {o : Option Nat} {c : Value} {ts : Addr → Value → Option Addr → TS} {b₀ : Stmt} {suite : List Stmt} {np q : Pos} {hds : List ExceptHandler} {l : List Cla} (nm : NameAt X n o) (hc : Names X x c)
      (su : ∀ (a : Addr) (oe : Obj) (cls : Value) (d : Option Addr) (pn : List (Addr × Obj)), Zc cls d oe → (∃ vs, oe.data = .fields vs) → PSs (X.suite a ((a, oe) :: pn)) (b₀ :: suite) (ts a cls d)) (r : HdsA X hds l) :
      HdsA X (.ExceptHandler (some (.Name x np)) n (b₀ :: suite) q :: hds) ((c, o, ts) :: l)
/-- an exception lies at a, in the state s -/
structure Hit (X : Cx) (pins : List (Addr × Obj)) (σ : L2.St) (H : Hp) (a : Addr) (B : Heap) (cls : Value) (d : Option Addr) (s : Shared) : Prop where
  fly : HandSPX.FlyingZ B (X.env :: X.outer) a (Zc cls d) s.heap
  back : ∀ g, B.StaysIn g → s.heap.UpToSlots g → Inv X pins σ H { s with heap := g }
  free : H a = none
section
variable {X : Cx} {pins : List (Addr × Obj)} {σ : L2.St} {H : Hp} {a : Addr} {B : Heap} {cls : Value} {d : Option Addr} {s : Shared} {D : Ends}
/-- what a suite begins with, anywhere on the way -/
theorem Hit.lies (x : Hit X pins σ H a B cls d s) (hf : X.env.frame = some X.env.locals) {g : Heap} (f : HandSPX.FlyingZ B (X.env :: X.outer) a (Zc cls d) g) (up : s.heap.UpToSlots g) :
    ∃ oe vs, g.get? a = some oe ∧ Zc cls d oe ∧ oe.data = .fields vs ∧ Inv (X.suite a ((a, oe) :: (X.pn ++ pins))) [] σ H { s with heap := g } := by
  obtain ⟨oe, vs, lies, z, dat⟩ := f.there
  have e : frs (X.env :: X.outer) = X.env.locals :: X.fs := by
    show List.filterMap _ _ = _
    rw [List.filterMap_cons, hf]
    rfl
  have off : ∀ b ∈ X.env.locals :: X.fs, a ≠ b := fun b hb same => by
    obtain ⟨_, u, hu, clash⟩ := f.2.2.1.mem (e ▸ hb)
    rw [← same, lies] at hu
    cases hu
    exact clash _ dat
  exact ⟨oe, vs, lies, z, dat, (x.back g f.1 up).suite lies dat x.free (off _ List.mem_cons_self) fun h => off a (List.mem_cons_of_mem _ h) rfl⟩
/-- behind a suite without a name -/
theorem suite_end {q : Addr × Obj} {t : Shared} (ok : X.Ok) : ∀ {f : Flow}, SP (X.suite a (q :: (X.pn ++ pins))) [] D f t → SP X pins D f t
  | .next, ⟨_, _, i, r⟩ => ⟨_, _, i.unsuite ok, r⟩
  | .brk, ⟨_, _, i, r⟩ => ⟨_, _, i.unsuite ok, r⟩
  | .cont, ⟨_, _, i, r⟩ => ⟨_, _, i.unsuite ok, r⟩
  | .ret _, ⟨_, _, _, i, v, r⟩ => ⟨_, _, _, i.unsuite ok, v, r⟩
/-- behind a suite whose name goes -/
theorem suite_end_as {q : Addr × Obj} {t : Shared} {i : Nat} {n : Str} {p : Pos} (ok : X.Ok) (hN : X.N.Nodup) (nm : NameAt X (some n) (some i)) : ∀ {f : Flow},
    SP (X.suite a (q :: (X.pn ++ pins))) [] { nx := fun σ' H' => D.nx (σ'.set i none) H', rt := D.rt, bk := fun σ' H' => D.bk (σ'.set i none) H', ct := fun σ' H' => D.ct (σ'.set i none) H' } f t →
    wpAny (model X.prog X.w) X.A (do bindName X.env n .none; unbindBehindTheSuite X.env n p) (fun _ t' => SP X pins D f t') X.xe t
  | .next, ⟨_, _, j, r⟩ => gone_ok (j.unsuite ok) hN nm.1 nm.2 fun _ k => ⟨_, _, k, r⟩
  | .brk, ⟨_, _, j, r⟩ => gone_ok (j.unsuite ok) hN nm.1 nm.2 fun _ k => ⟨_, _, k, r⟩
  | .cont, ⟨_, _, j, r⟩ => gone_ok (j.unsuite ok) hN nm.1 nm.2 fun _ k => ⟨_, _, k, r⟩
  | .ret _, ⟨_, _, _, j, v, r⟩ => gone_ok (j.unsuite ok) hN nm.1 nm.2 fun _ k => ⟨_, _, _, k, v, r⟩
/-- the clauses, one after the other -/
theorem Hit.clauses (ok : X.Ok) (hf : X.env.frame = some X.env.locals) (hN : X.N.Nodup) {hds : List ExceptHandler} {l : List Cla} (hh : HdsA X hds l) (x : Hit X pins σ H a B cls d s) (w : wMA X.K D l cls d σ H) :
    wpAny (model X.prog X.w) X.A (handleBy (.ref a) X.env hds) (SP X pins D) X.xe s := by
  induction hh with
  | nil => exact w.elim
  | @cons c' n o c ts b₀ suite np q hds l nm hc su r ih =>
    obtain ⟨b, fits, yes, no⟩ := w
    obtain ⟨oe, vs, lies, z, dat, I0⟩ := x.lies hf x.fly fun _ o e _ => ⟨o.slots, e⟩
    have asked := PySem.W.exm_one (M := model X.prog X.w) I0.kIn (fun A Q E t k q => wpAny_typeOf_ref (k _ _ lies) (z.1.symm ▸ q)) fits
    refine wpAny_handleBy_cons (codeAny_handlers_test ?_) (fun h => by cases h)
    have look : ∀ {Q E}, Q c s → wpAny (model X.prog X.w) (X.A.mark (some (.ref a))) (eval (.Name c' np) X.env) Q E s := fun h => by
      rcases hc with ⟨g1, g2, g3 | ⟨g3, g4, g5⟩⟩
      · exact ld_glob (X := X.suite a ((a, oe) :: (X.pn ++ pins))) I0 g1 g3 h g2
      · exact ld_blt (X := X.suite a ((a, oe) :: (X.pn ++ pins))) I0 g1 g3 g4 h g5 g2
    refine look (asked.here ?_)
    cases b with
    | false => exact ih (no rfl)
    | true =>
      have go := yes rfl a x.free
      match n, o, nm with
      | none, none, _ =>
        refine codeAny_handlers_suite (HandSPX.lands_againZ x.fly fun g f up => ?_)
        obtain ⟨oe, vs, _, z, dat, I⟩ := x.lies hf f up
        exact wpAny_mono ((su a oe cls d _ z ⟨_, dat⟩).run [] _ _ H _ I go) (fun fl t h => by
          have h' := suite_end ok h
          cases fl <;> exact h') fun _ _ h => h.elim
      | some n, some i, nm =>
        refine codeAny_handlers_suite_as (HandSPX.lands_againZ x.fly fun g f up => ?_)
        obtain ⟨oe, vs, _, z, dat, I⟩ := x.lies hf f up
        refine store_ok (X := X.suite a ((a, oe) :: (X.pn ++ pins))) (v := .ref a) I hN nm.1 (.inl nm.2) rfl (fun t J => ?_) (.inr nm.2)
        exact wpAny_mono ((su a oe cls d _ z ⟨_, dat⟩).run [] t _ H _ J go) (fun fl t' h => by
          have h' := suite_end_as (p := q) ok hN nm h
          cases fl <;> exact h') fun _ _ h => h.elim
end
theorem ps_try_mas {X : Cx} {body : List Stmt} {h₀ : ExceptHandler} {hds : List ExceptHandler} {l : List Cla} {pos : Pos} {tb : WX → TS} (hs : X.stack = X.env :: X.outer) (hf : X.env.frame = some X.env.locals) (hN : X.N.Nodup)
    (hb : ∀ (W : WX) (pn : List (Addr × Obj)) (xe : Value → Shared → Prop), Takes (X.tr pn xe) W → PassesOwn (model X.prog X.w) X.A X.env xe → PSs (X.tr pn xe) body (tb W))
    (hh : HdsA X (h₀ :: hds) l) : PS X (.Try body (h₀ :: hds) [] [] pos) (fun D σ H => tb (wMA X.K D l) D σ H) := by
  refine ⟨fun pins s σ H D I h => wpAny_Try_except ?_⟩
  have ok := I.ok
  have done : ∀ {f : Flow} {t : Shared}, SP (X.tr (X.pn ++ pins) (fun e s₁ => wpAny (model X.prog X.w) X.A (noteFrame e X.env) (fun _ s₂ => wpAny (model X.prog X.w) X.A (setFlight e none) (fun _ s₃ => wpAny (model X.prog X.w) X.A (handleBy e X.env (h₀ :: hds)) (SP X pins D) X.xe s₃) X.xe s₂) X.xe s₁)) [] D f t → SP X pins D f t := fun {f t} h => match f, h with
    | .next, ⟨_, _, i, r⟩ => ⟨_, _, i.ofTry ok, r⟩
    | .brk, ⟨_, _, i, r⟩ => ⟨_, _, i.ofTry ok, r⟩
    | .cont, ⟨_, _, i, r⟩ => ⟨_, _, i.ofTry ok, r⟩
    | .ret _, ⟨_, _, _, i, v, r⟩ => ⟨_, _, _, i.ofTry ok, v, r⟩
  refine wpAny_mono ((hb (wMA X.K D l) _ _ (fun u t caught => ?_) PassesOwn.looking).run [] s σ H D (I.toTry _) h) (fun f t h => ?_) fun _ _ h => h
  · obtain ⟨a, B, t0, _, σ', H', cls, d, rfl, J, nb, up, sky, na, os, ag, w⟩ := caught
    have K := J.ofTry ok
    refine Sky.land Zc.steady (ok.frames.trans (congrArg some hs)) hf (hs ▸ sky) fun g f up' => ?_
    exact Hit.clauses ok hf hN hh (s := { t with heap := g }) ⟨f, fun g' st up'' => K.landed nb st ((up.trans up').trans up'') os ag, na⟩ w
  · have h' := done h
    cases f with
    | next => exact wpAny_execs_nil h'
    | brk => exact h'
    | cont => exact h'
    | ret _ => exact h'
/-- which errors are caught -/
structure Ca (K : PySem.W.Frag) (mg : Str → Option Value) (x : Str) (C : Addr) (fld : Str) : Prop where
  g : mg x = some (.ref C)
  te : PySem.W.exmOne K (.ref C) (.ref C) = some true
  xf : XfC K C
  no : PySem.W.findIn K (.ref C) fld = some none
  ec : ExcC K C
end Bk
set_option Elab.async false
set_option linter.all false
set_option maxRecDepth 100000
namespace Bk
open PySem PySem.Spec PyProof.Rows L2
open Cf (Step Star Nf)
theorem left_pos {rs : List (Str × Str)} (g : Good rs) {p : Str × Str} (hp : p ∈ rs) : 0 < (cl p.1).length := by
  have := (g p hp).2.2
  rw [len_cl]; omega
theorem txs_eq : ∀ {a b : List (List Nat)}, a.Pairwise (fun x y => txLe x y = true) → b.Pairwise (fun x y => txLe x y = true) → a.Nodup → b.Nodup → (∀ k, k ∈ a ↔ k ∈ b) → a = b
  | [], [], _, _, _, _, _ => rfl
  | [], y :: ys, _, _, _, _, h => absurd ((h y).mpr List.mem_cons_self) (by simp)
  | x :: xs, [], _, _, _, _, h => absurd ((h x).mp List.mem_cons_self) (by simp)
  | x :: xs, y :: ys, ha, hb, na, nb, h => by
    obtain ⟨ha1, ha2⟩ := List.pairwise_cons.mp ha
    obtain ⟨hb1, hb2⟩ := List.pairwise_cons.mp hb
    obtain ⟨na1, na2⟩ := List.nodup_cons.mp na
    obtain ⟨nb1, nb2⟩ := List.nodup_cons.mp nb
    have hxy : x = y := by
      rcases List.mem_cons.mp ((h x).mp List.mem_cons_self) with e | e
      · exact e
      · rcases List.mem_cons.mp ((h y).mpr List.mem_cons_self) with e2 | e2
        · exact e2.symm
        · exact txLe_anti (ha1 y e2) (hb1 x e)
    subst hxy
    congr 1
    refine txs_eq ha2 hb2 na2 nb2 fun k => ⟨fun hk => ?_, fun hk => ?_⟩
    · rcases List.mem_cons.mp ((h k).mp (List.mem_cons_of_mem _ hk)) with e | e
      · rw [e] at hk; exact absurd hk na1
      · exact e
    · rcases List.mem_cons.mp ((h k).mpr (List.mem_cons_of_mem _ hk)) with e | e
      · rw [e] at hk; exact absurd hk nb1
      · exact e
/-! texts in their order -/
def sortedB : List (List Nat) → Bool
  | [] => true
  | [_] => true
  | x :: y :: r => txLe x y && sortedB (y :: r)
theorem clAs {i : Nat} {ts : Addr → Value → Option Addr → TS} {a : Addr} {cls : Value} {d : Option Addr} {D : Ends} {σ : L2.St} {H : Hp} (h : ts a cls d { nx := fun σ' H' => D.nx (σ'.set i none) H', rt := D.rt, bk := fun σ' H' => D.bk (σ'.set i none) H', ct := fun σ' H' => D.ct (σ'.set i none) H' } (σ.set i (some (.ref a))) H) : clA (some i) ts a cls d D σ H := h
theorem callS {sp : Sp} {E : L2.St → XK} {t : TA} {σ : L2.St} {H : Hp} {Q : VK} (h : t σ H fun vs H1 => sp vs H1 Q (E σ)) : tCallS sp E t σ H Q := h
theorem notL {K : PySem.W.Frag} {ta : TE} {σ : L2.St} {H : Hp} {Q : VK} (h : ta σ H fun x H1 => ∃ k, TruV K x H1 k ∧ Q (.bl (!k)) H1) : tNotT K ta σ H Q := h
end Bk
set_option Elab.async false
set_option linter.all false
set_option maxRecDepth 100000
set_option maxHeartbeats 2000000
namespace Bk
open PySem PySem.Spec PyProof.Rows L2
/-! sorted by a key that a def of the text gives -/
/-- an object of ours that nothing else holds -/
structure Off (X : Cx) (pins : List (Addr × Obj)) (H : Hp) (a : Addr) : Prop where
  free : H a = none
  new : X.s_0.heap.objs.size ≤ a
  loc : a ≠ X.env.locals
  cel : ∀ x c, X.env.cells.lookup x = some c → c ≠ a
  pin : ∀ p ∈ X.pn ++ pins, p.1 ≠ a
  fs : a ∉ X.fs
section
variable {X : Cx} {pins : List (Addr × Obj)} {σ : L2.St} {H : Hp} {s : Shared}
theorem off_new (I : Inv X pins σ H s) {a : Addr} (h : s.heap.objs.size ≤ a) : Off X pins H a :=
  ⟨I.hok.fresh h, Nat.le_trans I.sz h, fun z => absurd I.lt (by rw [z] at h; exact Nat.not_lt.mpr h), fun x c e z => by
    obtain ⟨_, o, ho, _⟩ := I.cell x c e
    exact absurd (Heap.lt_size ho) (by rw [z]; exact Nat.not_lt.mpr h), fun p hp z => absurd (Heap.lt_size (I.pin p hp).1) (by rw [z]; exact Nat.not_lt.mpr h), I.nofs h⟩
theorem Off.tr {H' : Hp} {a : Addr} (x : Off X pins H a) (h : H' a = none) : Off X pins H' a := ⟨h, x.new, x.loc, x.cel, x.pin, x.fs⟩
/-- it is pinned as it is -/
theorem Off.hold {a : Addr} (x : Off X pins H a) (I : Inv X pins σ H s) {xs : Array Value} {n : Nat} (e : s.heap.get? a = some (seqObj "list" xs n)) : Inv X ((a, seqObj "list" xs n) :: pins) σ H s :=
  I.pins_of fun p hp => by
    rcases List.mem_cons.mp hp with z | z
    · rw [z]; exact ⟨e, x.free, x.loc, x.fs, fun v z => by cases z⟩
    · exact I.pin p (List.mem_append_right _ z)
theorem drop_pin {p : Addr × Obj} (I : Inv X (p :: pins) σ H s) : Inv X pins σ H s := I.pins_of fun q hq => I.pin q (List.mem_append_right _ (List.mem_cons_of_mem _ hq))
/-- it is written -/
theorem Off.poke {a : Addr} {h' : Heap} {t : Nat} (x : Off X pins H a) (I : Inv X pins σ H s) (k : ∀ b o, b ≠ a → s.heap.get? b = some o → h'.get? b = some o) : Inv X pins σ H { s with heap := h', toks := t } :=
  I.turned k x.free x.loc (.inr x.new) x.cel x.pin
theorem Off.more {a : Addr} {p : Addr × Obj} (x : Off X pins H a) (h : p.1 ≠ a) : Off X (p :: pins) H a :=
  ⟨x.free, x.new, x.loc, x.cel, fun q hq => by
    rcases List.mem_append.mp hq with z | z
    · exact x.pin q (List.mem_append_left _ z)
    · rcases List.mem_cons.mp z with z | z
      · rw [z]; exact h
      · exact x.pin q (List.mem_append_right _ z), x.fs⟩
end
/-- what is asked of the def f: that it tells the key of each item, whatever else has been made meanwhile -/
def Keys (K : PySem.W.Frag) (sp : Sp) (k : V → PyData) (vs : List V) (H : Hp) : Prop := ∀ v ∈ vs, ∀ H1, Same H H1 → sp [v] H1 (fun y H2 => Same H1 H2 ∧ Dp K H2 y (k v)) E0
abbrev byKey (k : V → PyData) (vs : List V) : List V := vs.mergeSort (PySem.W.dataLe false k)
theorem each_vals : ∀ {vs : List V} {us : List Value}, Vals vs us → PySem.W.EachIs (fun u v => RelV v u) us vs
  | _, _, .nil => .nil
  | _, _, .cons r t => .cons r (each_vals t)
theorem vals_each : ∀ {us : List Value} {vs : List V}, PySem.W.EachIs (fun u v => RelV v u) us vs → Vals vs us
  | _, _, .nil => .nil
  | _, _, .cons r t => .cons r (vals_each t)
theorem reads_each {X : Cx} {pins : List (Addr × Obj)} {σ : L2.St} {H : Hp} {s : Shared} (I : Inv X pins σ H s) : ∀ {ys : List V} {us : List Value} {ds : List PyData}, Vals ys us → DpAll X.K H ys ds → PySem.W.EachIs (fun u d => ∃ as, Reads s.heap u d as) us ds
  | _, _, _, .nil, .nil => .nil
  | _, _, _, .cons r t, .cons h u => .cons (Dp.reads I _ _ _ h r) (reads_each I t u)
section
variable {X : Cx} {pins : List (Addr × Obj)} {σ : L2.St} {H : Hp} {s : Shared} {A : Around} {n : Nat} {f : Addr} {fd : FuncData} {ps : List Str} {sp : Sp} {k : V → PyData} {vs : List V} {us : List Value} {P : PySem.Fin → Shared → Prop} {E : Value → Shared → Prop}
/-- the keys are asked, one after the other -/
theorem keys_asked (F : FnOk X.prog X.w X.K X.mg X.base CX0 n f fd ps sp) (hb : Binds X.K fd ps []) (hr : Room n A) (hA : A.frames = X.A.frames) {a kS : Addr} {e1 : Nat} (r : Vals vs us) (few : vs.length ≤ sizeLine) (ok : Keys X.K sp k vs H)
    (hal : PySem.W.AllAlike (vs.map k)) (hsk : PySem.W.Sortable (vs.map k)) (hu : ∀ v ∈ vs, A.units + (k v).depth < cLine)
    (offS : Off X pins H kS) (offA : Off X pins H a) (ne : kS ≠ a) (I : Inv X ((kS, seqObj "list" #[] 0) :: (a, seqObj "list" #[] e1) :: pins) σ H s)
    (q : ∀ H' s', Same H H' → Inv X pins σ (upd H' a (.lst (byKey k vs))) s' → H' a = none → P (.done (.ret .none)) s') : wpAny (model X.prog X.w) A (ksk_rest a (.ref f) false us.toArray e1 (.ref kS)) P E s := by
  have hlen := r.length
  unfold ksk_rest
  refine wpAny_bind (wpAny_rule ?_)
  simp only [List.forIn_toArray]
  refine wpAny_bind (ksk_fold (fun i t => ∃ Hi kA e ys, Inv X ((kS, seqObj "list" kA e) :: (a, seqObj "list" #[] e1) :: pins) σ Hi t ∧ Same H Hi ∧ Vals ys kA.toList ∧ DpAll X.K Hi ys ((vs.take i).map k) ∧ Hi kS = none ∧ Hi a = none) us 0 s
    ⟨H, #[], 0, [], I, Same.refl _, .nil, .nil, offS.free, offA.free⟩ ?_ ?_)
  · rintro j u t hj ⟨Hi, kA, e, ys, J, sm, rv, dp, fS, fA⟩
    rw [Nat.zero_add] at dp ⊢
    have hj' : j < vs.length := by rw [hlen]; exact (List.getElem?_eq_some_iff.mp hj).1
    have hv := List.getElem?_eq_getElem hj'
    have hvm : vs[j] ∈ vs := List.getElem_mem hj'
    have rel : RelV vs[j] u := by
      obtain ⟨u', e1, e2⟩ := r.get hv
      rw [hj] at e1; cases e1
      exact e2
    have hky : kA.size = j := by
      have a1 := rv.length
      have a2 := Wp.dps_len dp
      have a3 : kA.toList.length = kA.size := Array.length_toList
      rw [List.length_map, List.length_take, Nat.min_eq_left (Nat.le_of_lt hj')] at a2
      omega
    have env : Env0 X.prog X.w X.K X.mg X.base A X.stack t Hi := by
      have z := J.env0
      exact ⟨hA.trans z.frames, z.mod, z.bs, z.bsz, z.funs, z.frf, z.hok, z.bare⟩
    have told := ok _ hvm Hi sm
    have bind := hb t [u] J.kIn (by have := F.len _ _ _ _ told; simpa using this)
    refine wpAny_bind (wpAny_attempt (wpAny_call (codeAny_mono (F.run A X.stack t Hi ⟨[u], []⟩ [u] [vs[j]] _ E0 hr env (by simpa using bind) (.cons rel .nil) told) fun res t2 back => ?_)))
    match res, back with
    | .error _, no => exact no.elim
    | .ok .next, no => exact no.elim
    | .ok .brk, no => exact no.elim
    | .ok .cont, no => exact no.elim
    | .ok (.ret w), yes =>
      obtain ⟨y, H2, J2, ry, sm2, dk⟩ := J.after yes
      have pS := J2.pin (kS, seqObj "list" kA e) (List.mem_append_right _ List.mem_cons_self)
      have pA := J2.pin (a, seqObj "list" #[] e1) (List.mem_append_right _ (List.mem_cons_of_mem _ List.mem_cons_self))
      have oS : Off X ((a, seqObj "list" #[] e1) :: pins) H2 kS := (offS.tr pS.2.1).more (Ne.symm ne)
      have upd := get?_update_seq pS.1 (·.push w)
      refine wpAny_bind (listUpdate_at pS.1 rfl ?_ (by omega) (by rw [Array.size_push]; omega))
      have J3 := oS.poke (h' := t2.heap.update kS (Obj.mapSeq (·.push w))) (t := t2.toks) (drop_pin J2) fun b o hb e => (Heap.get?_update_ne _ _ _ _ hb).trans e
      refine wpAny_pure ⟨rfl, H2, kA.push w, _, ys ++ [y], oS.hold J3 upd, sm.trans sm2, ?_, ?_, pS.2.1, pA.2.1⟩
      · rw [Array.toList_push]; exact rv.append (.cons ry .nil)
      · rw [List.take_add_one, hv, List.map_append]
        exact Wp.dps_append (Wp.dps_same sm2 _ _ dp) (.cons dk .nil)
  · rintro t ⟨Hi, kA, e, ys, J, sm, rv, dp, fS, fA⟩
    rw [Nat.zero_add, ← hlen, List.take_length] at dp
    have rd := reads_each J rv dp
    have hsz : kA.size = us.length := by
      have a1 := rv.length
      have a2 := Wp.dps_len dp
      have a3 : kA.toList.length = kA.size := Array.length_toList
      rw [List.length_map] at a2
      omega
    have pS := J.pin (kS, seqObj "list" kA e) (List.mem_append_right _ List.mem_cons_self)
    have pA := J.pin (a, seqObj "list" #[] e1) (List.mem_append_right _ (List.mem_cons_of_mem _ List.mem_cons_self))
    refine wpAny_bind (listItems_at pS.1 rfl ?_)
    refine PySem.W.keyH_end (κ := PySem.W.dataKind t.heap (vs.map k)) (h₁ := PySem.W.hideAll t.heap [kS]) (vs := us) (b := false) (s := t) (fun b o hba hb => ?_) (PySem.W.hideAll_none _ (by simp)) pS.1 pA.1 ne
      (PySem.W.SortsAt.data rd hal hsk fun d hd => by obtain ⟨v, hv, rfl⟩ := List.mem_map.mp hd; exact hu v hv) hsz (by omega) fun h3 tk c kp lies => ?_
    · exact PySem.W.of_hideAll [kS] hb
    · have J0 := drop_pin (drop_pin J)
      have kk : ∀ b o, b ≠ kS → b ≠ a → t.heap.get? b = some o → h3.get? b = some o := fun b o h1 h2 e => kp b o h2 (PySem.W.hideAll_get [kS] e (by simpa using h1))
      have outs : Vals (byKey k vs) (PySem.W.sortVals (PySem.W.dataKind t.heap (vs.map k)) false kA.toList us) := vals_each (PySem.W.keyedOut_each k ⟨t.heap, kA.toList, hal, rfl, rd⟩ (each_vals r))
      have na : ∀ {b u}, Hi b = some u → b ≠ a := fun e z => by rw [z, fA] at e; cases e
      have nS : ∀ {b u}, Hi b = some u → b ≠ kS := fun e z => by rw [z, fS] at e; cases e
      have inn : ∀ {b : Addr}, b ∉ [kS, a] → b ≠ kS ∧ b ≠ a := fun h => ⟨fun z => h (by simp [z]), fun z => h (by simp [z])⟩
      refine q Hi _ sm (J0.step (ch := [kS, a]) (h' := h3) (g' := t.gens) (t' := tk) (d' := t.drawn) (fun b hb => ?_) (fun b o _ _ hc e _ => kk b o (inn hc).1 (inn hc).2 e) (fun b o _ _ hc e _ => ⟨o.slots, kk b o (inn hc).1 (inn hc).2 e⟩) (fun b o hc e m => (upd_ne (inn hc).2).trans m)
        (fun b o hc e => ⟨o, kk b o (inn hc).1 (inn hc).2 e⟩) (fun b xs e => (upd_ne (na e)).trans e) (fun b o u e => (upd_ne (na e)).trans e) (fun b ps e => ⟨#[], by rw [upd_ne (na e), e]; simp⟩) (fun m hm => ?_) (fun b u e => ?_) J0.bare) fA
      · rcases List.mem_cons.mp hb with z | z
        · subst z; exact ⟨.inr offS.new, offS.loc, offS.cel, offS.pin⟩
        · rw [List.mem_singleton.mp z]; exact ⟨.inr offA.new, offA.loc, offA.cel, offA.pin⟩
      · obtain ⟨o, es, ep, ho, rest⟩ := hm
        exact ⟨o, es, ep, kk _ o (Ne.symm offS.loc) (Ne.symm offA.loc) ho, rest⟩
      · by_cases hb : b = a
        · subst hb
          rw [upd_same] at e
          cases e
          exact ⟨by rw [List.length_mergeSort]; exact few, _, _, outs, lies⟩
        · rw [upd_ne hb] at e
          refine (J0.hok b u e).stay (fun c v hc g => kk c v ?_ ?_ g) (fun c g => (upd_ne (na g)).trans g) fun c xs g => (upd_ne (na g)).trans g
          · rcases hc with z | z
            · rw [z]; exact nS e
            · exact nS z
          · rcases hc with z | z
            · rw [z]; exact na e
            · exact na z
/-- a list of ours is sorted by keys -/
theorem sort_keyed (F : FnOk X.prog X.w X.K X.mg X.base CX0 n f fd ps sp) (hb : Binds X.K fd ps []) (hr : Room n A) (hA : A.frames = X.A.frames) {a : Addr} (r : Vals vs us) (few : vs.length ≤ sizeLine) (ok : Keys X.K sp k vs H)
    (hal : PySem.W.AllAlike (vs.map k)) (hsk : PySem.W.Sortable (vs.map k)) (hu : ∀ v ∈ vs, A.units + (k v).depth < cLine)
    (offA : Off X pins H a) (I : Inv X pins σ H s) {m : Nat} (lies : s.heap.get? a = some (seqObj "list" us.toArray m))
    (q : ∀ H' s', Same H H' → Inv X pins σ (upd H' a (.lst (byKey k vs))) s' → H' a = none → P (.done (.ret .none)) s') : wpAny (model X.prog X.w) A (Builtin.«list.sort» ⟨[.ref a], [(Str.ofString "key", .ref f)]⟩) P E s := by
  have hlen := r.length
  rw [ksk_t1]
  unfold ksk_tree
  have up := get?_update_seq lies fun _ => (#[] : Array Value)
  refine wpAny_bind (listItems_at lies rfl (wpAny_bind (listUpdate_at lies rfl ?_ (by rw [List.size_toArray]; omega) (Nat.zero_le _))))
  refine wpAny_bind (seqEpoch_at up rfl (wpAny_bind (wpAny_newTuple ?_ (by show us.length ≤ _; omega))))
  refine wpAny_bind (wpAny_newList ?_ (Nat.zero_le _))
  refine wpAny_holding ?_
  have I1 := offA.poke (h' := s.heap.update a (Obj.mapSeq fun _ => #[])) (t := s.toks) I fun b o hb e => (Heap.get?_update_ne _ _ _ _ hb).trans e
  have I2 := offA.hold I1 up
  have I3 := I2.kept (h' := (s.heap.update a (Obj.mapSeq fun _ => #[])).push (seqObj "tuple" us.toArray 0)) (t' := s.toks) fun b o e => Heap.get?_push_of_some _ e
  have offS := off_new I3 (a := ((s.heap.update a (Obj.mapSeq fun _ => #[])).push (seqObj "tuple" us.toArray 0)).objs.size) (Nat.le_refl _)
  have I4 := I3.kept (h' := ((s.heap.update a (Obj.mapSeq fun _ => #[])).push (seqObj "tuple" us.toArray 0)).push (seqObj "list" #[] 0)) (t' := s.toks) fun b o e => Heap.get?_push_of_some _ e
  have ne := offS.pin (a, _) (List.mem_append_right _ List.mem_cons_self)
  have I5 := offS.hold I4 (xs := #[]) (n := 0) (Heap.get?_push_size _ rfl)
  have offS' : Off X pins H _ := ⟨offS.free, offS.new, offS.loc, offS.cel, fun p hp => offS.pin p (by
    rcases List.mem_append.mp hp with z | z
    · exact List.mem_append_left _ z
    · exact List.mem_append_right _ (List.mem_cons_of_mem _ z)), offS.fs⟩
  exact keys_asked F hb hr hA r few ok hal hsk hu offS' offA (Ne.symm ne) I5 q
end
end Bk
namespace Bk
open PySem PySem.Spec PyProof.Rows L2
/-- the keys can be compared -/
structure KeyOk (k : V → PyData) (vs : List V) : Prop where
  al : PySem.W.AllAlike (vs.map k)
  so : PySem.W.Sortable (vs.map k)
  dp : ∀ v ∈ vs, (k v).depth ≤ 60
def rSortK (K : PySem.W.Frag) (f : Addr) (sp : Sp) : List V → List V → Hp → VK → Prop := fun xs zs H Q => ∃ a vs k, xs = [V.ref a] ∧ zs = [V.ref f] ∧ SqL K H a vs ∧ KeyOk k vs ∧ Keys K sp k vs H ∧ ∀ H' p, Same H H' → H' p = none → Q (.ref p) (upd H' p (.lst (byKey k vs)))
def rSortKD (K : PySem.W.Frag) (f : Addr) (sp : Sp) : List V → List V → Hp → VK → Prop := fun xs zs H Q => ∃ a kvs k, xs = [V.ref a] ∧ zs = [V.ref f] ∧ Rd H a (.dK kvs) ∧ (∀ kv ∈ kvs, ∃ x, kv.1 = Sum.inr x) ∧ KeyOk k (kvs.map fun kv => kV kv.1) ∧ Keys K sp k (kvs.map fun kv => kV kv.1) H ∧
  ∀ H' p, Same H H' → H' p = none → Q (.ref p) (upd H' p (.lst (byKey k (kvs.map fun kv => kV kv.1))))
section
variable {X : Cx} {n : Nat} {f : Addr} {fd : FuncData} {ps : List Str} {sp : Sp}
theorem cr_sortK (F : FnOk X.prog X.w X.K X.mg X.base CX0 n f fd ps sp) (hb : Binds X.K fd ps []) (hr : Room (n + 2) X.A) : CallRK X (.builtin "sorted") [Str.ofString "key"] (rSortK X.K f sp) := by
  rintro pins s σ H xs zs us ws Q I rx rz ⟨a, vs, k, rfl, rfl, hs, ko, ok, q⟩
  obtain rfl := Vals.ref1 rx
  obtain ⟨w1, rfl, e1⟩ := vals1 rz
  cases e1
  obtain ⟨its, rv, hl, hz⟩ := I.list hs
  refine PySem.W.sorted_of_sort hl.isList (by rw [← rv.length]; exact hz) (ksk_s1 _ _) (fun _ => ksk_l1 _ _) fun E' => ?_
  have I1 := I.kept (h' := PySem.W.copyHeap s.heap its) (t' := s.toks) fun b o e => PySem.W.copyHeap_old e
  refine sort_keyed F hb hr.in1.in1 rfl rv hz ok ko.al ko.so (fun v hv => ?_) (off_new I (Nat.le_succ _)) I1 (PySem.W.copyHeap_at _ _) fun H' s' sm J fr => ⟨rfl, .ref _, _, J, rfl, q H' _ sm fr⟩
  have a1 := hr.un
  have a2 := ko.dp v hv
  show X.A.units + 1 + 1 + _ < _
  omega
end
theorem wc_sortK {X : Cx} {K : PySem.W.Frag} {n : Nat} {f : Addr} {fd : FuncData} {ps : List Str} {sp : Sp} (F : FnOk X.prog X.w K X.mg X.base CX0 n f fd ps sp) (hb : Binds K fd ps []) (hr : Room (n + 2) X.A) (hK : X.K = K := by rfl) : CallRK X (.builtin "sorted") [Str.ofString "key"] (rSortK K f sp) := by
  subst hK; exact cr_sortK F hb hr
theorem ckw {r : List V → List V → Hp → VK → Prop} {t tk : TA} {σ : L2.St} {H : Hp} {Q : VK} (h : t σ H fun vs H1 => tk σ H1 fun zs H2 => r vs zs H2 Q) : tCKw r t tk σ H Q := h
end Bk
set_option Elab.async false
set_option linter.all false
set_option maxRecDepth 100000
namespace Bk
open PySem PySem.Spec PyProof.Rows L2
open Cf (Step Star Nf)
/-- the key of a text: its length, the text -/
def tkey : V → PyData
  | .str x => tx2 x
  | _ => .int 0
theorem byKey_tx (us : List (List Nat)) : byKey tkey (tx us) = tx (asc us) := by
  unfold asc byKey tx
  rw [List.map_mergeSort (s := PySem.W.dataLe false tkey)]
  intro a _ b _
  show txLe a b = !PySem.W.dataLt (tx2 (mkS b)) (tx2 (mkS a))
  rw [dataLe_tx, cl_mk, cl_mk]
theorem tkey_tx (us : List (List Nat)) : (tx us).map tkey = (us.map mkS).map tx2 := by
  rw [tx, List.map_map, List.map_map]
  exact List.map_congr_left fun u _ => rfl
theorem tkey_ok (us : List (List Nat)) : KeyOk tkey (tx us) := ⟨by rw [tkey_tx]; exact tx2_alike _, by rw [tkey_tx]; exact tx2_sortable _, fun v hv => by
  obtain ⟨u, _, rfl⟩ := List.mem_map.mp hv
  exact tx2_depth _⟩
end Bk
set_option Elab.async false
set_option linter.all false
set_option maxRecDepth 100000
namespace Bk
open PySem PySem.Spec PyProof.Rows L2
/-! x not in a tuple -/
def rNinT (K : PySem.W.Frag) : R2 := fun x y H Q => ∃ d ds, Dp K H x d ∧ Dp K H y (.tuple ds) ∧ SeqAt.shaped d = true ∧ SeqAt.shaped (.tuple ds) = true ∧ Q (.bl (!ds.any fun z => PyData.eqv z d)) H
/-! the order of overlaps -/
def rowD (o : Ov) : PyData := .tuple [.str o.1, .int (o.2.1 : Nat), .int (o.2.2.1 : Nat), .int (o.2.2.2 : Nat)]
def keyD (o : Ov) : PyData := .tuple [.int (o.1.length : Nat), rowD o]
def leO (a b : Ov) : Bool := !PySem.W.dataLt (ov5 b) (ov5 a)
/-- all overlaps, ascending -/
def ovDue (rs : List (Str × Str)) : List Ov := (ovAll rs).mergeSort leO
theorem OvSorted.eq {os all : List Ov} (h : OvSorted os all) : os = all.mergeSort leO := by
  obtain ⟨ws, hl, e⟩ := h.sorted
  have hm : ∀ q ∈ ws.zip (all.map ov5), ∃ o, q.2 = ov5 o := fun q hq => by
    obtain ⟨o, _, e⟩ := List.mem_map.mp (List.of_mem_zip (show (q.1, q.2) ∈ ws.zip (all.map ov5) from hq)).2
    exact ⟨o, e.symm⟩
  have idm : ∀ l : List Ov, (l.map ov5).map dec5 = l := fun l => by
    rw [List.map_map]
    exact (List.map_congr_left (g := id) fun o _ => dec5_ov5 o).trans (List.map_id _)
  have e1 : os = ((ws.zip (all.map ov5)).mergeSort (PySem.W.dataLe false Prod.snd)).map fun q => dec5 q.2 := by
    have := congrArg (List.map dec5) e
    rw [idm, List.map_map] at this
    exact this
  have e2 : (ws.zip (all.map ov5)).map (fun q => dec5 q.2) = all := by
    have : ((ws.zip (all.map ov5)).map Prod.snd).map dec5 = all := by
      rw [List.map_snd_zip (by rw [List.length_map]; omega), idm]
    rwa [List.map_map] at this
  rw [e1, List.map_mergeSort (s := leO), e2]
  intro a ha b hb
  obtain ⟨x, ex⟩ := hm a ha
  obtain ⟨y, ey⟩ := hm b hb
  show (!PySem.W.dataLt b.2 a.2) = leO (dec5 a.2) (dec5 b.2)
  rw [ex, ey, dec5_ov5, dec5_ov5]; rfl
theorem ovDue_mem {rs : List (Str × Str)} {o : Ov} : o ∈ ovDue rs ↔ o ∈ ovAll rs := (List.mergeSort_perm _ _).mem_iff
/-! overlaps as rows of a list -/
abbrev rowV (o : Ov) : List V := [.str o.1, .int (o.2.1 : Nat), .int (o.2.2.1 : Nat), .int (o.2.2.2 : Nat)]
def OvRows (H : Hp) : List Addr → List Ov → Prop
  | [], [] => True
  | b :: bs, o :: os => H b = some (.tup (rowV o)) ∧ OvRows H bs os
  | _, _ => False
theorem OvRows.len {H : Hp} : ∀ {bs : List Addr} {os : List Ov}, OvRows H bs os → bs.length = os.length
  | [], [], _ => rfl
  | _ :: _, _ :: _, h => by rw [List.length_cons, List.length_cons, h.2.len]
  | [], _ :: _, h => h.elim
  | _ :: _, [], h => h.elim
theorem OvRows.keep {H H' : Hp} (k : ∀ b xs, H b = some (.tup xs) → H' b = some (.tup xs)) : ∀ {bs : List Addr} {os : List Ov}, OvRows H bs os → OvRows H' bs os
  | [], [], _ => trivial
  | _ :: _, _ :: _, h => ⟨k _ _ h.1, h.2.keep k⟩
  | [], _ :: _, h => h.elim
  | _ :: _, [], h => h.elim
theorem OvRows.app {H : Hp} {T : Addr} {o : Ov} (hT : H T = some (.tup (rowV o))) : ∀ {bs : List Addr} {os : List Ov}, OvRows H bs os → OvRows H (bs ++ [T]) (os ++ [o])
  | [], [], _ => ⟨hT, trivial⟩
  | _ :: _, _ :: _, h => ⟨h.1, h.2.app hT⟩
  | [], _ :: _, h => h.elim
  | _ :: _, [], h => h.elim
def decH (H : Hp) : V → Ov
  | .ref T => match H T with
    | some (.tup [.str z, .int i, .int p, .int j]) => (z, i.toNat, p.toNat, j.toNat)
    | _ => ("", 0, 0, 0)
  | _ => ("", 0, 0, 0)
def keyV (H : Hp) (v : V) : PyData := keyD (decH H v)
/-! how the law finds them -/
def lawT (l : Str) (p : Nat) (o : Str) : List Nat := (cl l ++ (cl o).drop (l.length - p)).take (max l.length (p + o.length))
def lawF (l : Str) (p : Nat) (o : Str) : Bool := decide (((lawT l p o).drop p).take o.length = cl o) && decide ((lawT l p o).take l.length = cl l)
theorem law_ov {l o : Str} {p : Nat} (hp : p < l.length) : ovText l (p : Nat) o = if lawF l p o = true then some (mkS (lawT l p o)) else none := by
  have hl := len_cl l
  have ho := len_cl o
  unfold ovText
  rw [bothOf_nat (by omega)]
  rw [cutS_mid (z := l) p (p + min (l.length - p) o.length) rfl (by omega) (by omega), Nat.add_sub_cancel_left, cutS_hi (z := o) (min (l.length - p) o.length) rfl, cutS_lo (z := o) (min (l.length - p) o.length) rfl]
  have er : ∀ x : List Nat, l ++ mkS x = mkS (cl l ++ x) := fun x => by
    rw [← mk_cl (l ++ mkS x), cl_app, cl_mk]
  rw [er]
  have key : (lawF l p o = true ↔ mkS (((cl l).drop p).take (min (l.length - p) o.length)) = mkS ((cl o).take (min (l.length - p) o.length))) ∧ lawT l p o = cl l ++ (cl o).drop (min (l.length - p) o.length) := by
    unfold lawF
    rw [Bool.and_eq_true, decide_eq_true_iff, decide_eq_true_iff, mk_iff]
    rcases Nat.le_total o.length (l.length - p) with h | h
    · have eT : lawT l p o = cl l := by
        unfold lawT
        rw [List.drop_of_length_le (by omega), List.append_nil, List.take_of_length_le (by omega)]
      rw [eT, Nat.min_eq_right h, List.drop_of_length_le (l := cl o) (by omega), List.append_nil, List.take_of_length_le (l := cl o) (by omega), List.take_of_length_le (l := cl l) (i := l.length) (by omega)]
      simp
    · have eT : lawT l p o = cl l ++ (cl o).drop (l.length - p) := by
        unfold lawT
        exact List.take_of_length_le (by rw [List.length_append, List.length_drop]; omega)
      have e2 : (cl l ++ (cl o).drop (l.length - p)).drop p = (cl l).drop p ++ (cl o).drop (l.length - p) := by
        rw [List.drop_append_of_le_length (by omega)]
      rw [eT, Nat.min_eq_left h, e2, List.take_of_length_le (l := (cl l).drop p ++ _) (by rw [List.length_append, List.length_drop, List.length_drop]; omega), ← hl, List.take_left, List.take_of_length_le (l := (cl l).drop p) (by rw [List.length_drop]; omega)]
      refine ⟨?_, rfl⟩
      constructor
      · rintro ⟨h1, _⟩
        rw [← h1, List.take_append_of_le_length (by rw [List.length_drop]; omega), List.take_of_length_le (by rw [List.length_drop]; omega)]
      · intro h1
        refine ⟨?_, rfl⟩
        rw [h1, List.take_append_drop]
  obtain ⟨k1, k2⟩ := key
  by_cases e : lawF l p o = true
  · rw [if_pos e, if_pos (k1.mp e), k2]
  · rw [if_neg e, if_neg fun z => e (k1.mpr z)]
/-- the overlaps of two rules, place by place -/
def lawCell (i j : Nat) (l o : Str) (k : Nat) : List Ov := (List.range k).flatMap fun p => if 0 < p ∨ i < j then ovAt i j l o p else []
theorem lawCell_all {i j : Nat} {l o : Str} : lawCell i j l o l.length = ovCellTo i j l o (l.length - ovStart i j) := by
  unfold lawCell ovCellTo ovStart
  by_cases h : i < j
  · rw [if_pos h, Nat.sub_zero]
    congr 1
    funext p
    rw [if_pos (.inr h), Nat.zero_add]
  · rw [if_neg h]
    cases hl : l.length with
    | zero => rfl
    | succ n =>
      rw [List.range_succ_eq_map, List.flatMap_cons, if_neg (by omega), List.nil_append, Nat.add_sub_cancel, List.flatMap_map]
      congr 1
      funext p
      show (if 0 < p + 1 ∨ i < j then ovAt i j l o (p + 1) else []) = ovAt i j l o (1 + p)
      rw [if_pos (.inl (by omega)), Nat.add_comm]
/-! the steps of an overlap -/
theorem ov_steps {rs : List (Str × Str)} (g : Good rs) {o : Ov} (h : o ∈ ovAll rs) : (0, o.2.1) ∈ stepsL rs (cl o.1) ∧ (o.2.2.1, o.2.2.2) ∈ stepsL rs (cl o.1) := by
  obtain ⟨l, r, l2, r2, e1, e2, e3, e4⟩ := ov_mem h
  obtain ⟨⟨y, h1⟩, y2, h2⟩ := ovText_ok (by omega) e3
  have hl := len_cl l
  have hl2 := len_cl l2
  have g2 := (g _ (List.mem_of_getElem? e2)).2.2
  simp only at g2
  refine ⟨List.mem_flatMap.mpr ⟨0, List.mem_range.mpr (by rw [h1, List.length_append]; omega), List.mem_map.mpr ⟨_, fitsAt_mem.mpr ⟨l, r, e1, ?_⟩, rfl⟩⟩, List.mem_flatMap.mpr ⟨o.2.2.1, List.mem_range.mpr (by rw [h2, List.length_append, List.length_append, List.length_take]; omega), List.mem_map.mpr ⟨_, fitsAt_mem.mpr ⟨l2, r2, e2, ?_⟩, rfl⟩⟩⟩
  · rw [h1, List.drop_zero]; exact List.prefix_append _ _
  · have ht : ((cl l).take o.2.2.1).length = o.2.2.1 := by rw [List.length_take]; omega
    rw [h2, List.append_assoc]
    have := List.drop_left (l₁ := (cl l).take o.2.2.1) (l₂ := cl l2 ++ y2)
    rw [ht] at this
    rw [this]; exact List.prefix_append _ _
theorem ov_over {sg : Str} {rs : List (Str × Str)} (ok : ∀ q ∈ rs, RuleOk sg q.1 q.2) {o : Ov} (h : o ∈ ovAll rs) : o.1.length ≤ 8 ∧ ∀ c ∈ cl o.1, c ∈ cl sg := by
  obtain ⟨l, r, l2, r2, e1, e2, e3, e4⟩ := ov_mem h
  have o1 := ok _ (List.mem_of_getElem? e1)
  have o2 := ok _ (List.mem_of_getElem? e2)
  have a1 := o1.l4
  have a2 := o2.l4
  simp only at a1 a2
  have hz := ovText_le e3
  refine ⟨by omega, fun c hc => ?_⟩
  rw [law_ov e4] at e3
  by_cases e : lawF l o.2.2.1 l2 = true
  · rw [if_pos e] at e3
    rw [← Option.some.inj e3, cl_mk] at hc
    rcases List.mem_append.mp (List.mem_of_mem_take hc) with z | z
    · exact o1.lc c z
    · exact o2.lc c (List.mem_of_mem_drop z)
  · rw [if_neg e] at e3; cases e3
end Bk
set_option Elab.async false
set_option linter.all false
set_option maxRecDepth 100000
namespace Bk
open PySem PySem.Spec PyProof.Rows L2
open Cf (Step Star Nf)
/-! a dict of texts: no key twice -/
structure KeyN (kvs : List (Key × V)) : Prop where
  nd : (kvs.map (·.1)).Nodup
  st : ∀ kv ∈ kvs, ∃ y, kv.1 = Sum.inr y
theorem putK_new {kvs : List (Key × V)} {k : Key} {v : V} (h : valV kvs k = none) : putK kvs k v = kvs ++ [(k, v)] := by
  have e : (kvs.any fun kv => decide (kv.1 = k)) = false := by rw [valV_any, h]; rfl
  unfold putK
  rw [e, if_neg Bool.false_ne_true]
theorem putK_old {kvs : List (Key × V)} {k : Key} {v : V} (h : (valV kvs k).isSome = true) : (putK kvs k v).map (·.1) = kvs.map (·.1) := by
  have e : (kvs.any fun kv => decide (kv.1 = k)) = true := by rw [valV_any]; exact h
  unfold putK
  rw [e, if_pos rfl, List.map_map]
  refine List.map_congr_left fun kv _ => ?_
  show (if kv.1 = k then (kv.1, v) else kv).1 = kv.1
  split <;> rfl
theorem KeyN.put {kvs : List (Key × V)} {x : Str} {v : V} (h : KeyN kvs) : KeyN (putK kvs (Sum.inr x) v) := by
  cases e : valV kvs (Sum.inr x) with
  | none =>
    have en : ∀ kv ∈ kvs, kv.1 ≠ Sum.inr x := fun kv hk z => by
      have h2 : (kvs.any fun kv => decide (kv.1 = Sum.inr x)) = false := by rw [valV_any, e]; rfl
      rw [List.any_eq_false] at h2
      exact h2 kv hk (by simp [z])
    rw [putK_new e]
    refine ⟨?_, fun kv hk => ?_⟩
    · rw [List.map_append]
      refine List.nodup_append.mpr ⟨h.nd, by simp, fun a ha b hb z => ?_⟩
      obtain ⟨kv, hk, rfl⟩ := List.mem_map.mp ha
      rw [List.mem_singleton.mp hb] at z
      exact en kv hk z
    · rcases List.mem_append.mp hk with z | z
      · exact h.st kv z
      · rw [List.mem_singleton.mp z]; exact ⟨x, rfl⟩
  | some w =>
    have ek := putK_old (v := v) (show (valV kvs (Sum.inr x)).isSome = true by rw [e]; rfl)
    refine ⟨by rw [ek]; exact h.nd, fun kv hk => ?_⟩
    have h1 : kv.1 ∈ kvs.map (·.1) := by rw [← ek]; exact List.mem_map.mpr ⟨kv, hk, rfl⟩
    obtain ⟨kv2, h2, h3⟩ := List.mem_map.mp h1
    rw [← h3]
    exact h.st kv2 h2
/-- the texts of a dict -/
def txOf : Key → List Nat
  | Sum.inr x => cl x
  | Sum.inl _ => []
def txsOf (kvs : List (Key × V)) : List (List Nat) := kvs.map fun kv => txOf kv.1
theorem KeyN.vals {kvs : List (Key × V)} (h : KeyN kvs) : (kvs.map fun kv => kV kv.1) = tx (txsOf kvs) := by
  rw [tx, txsOf, List.map_map]
  refine List.map_congr_left fun kv hk => ?_
  obtain ⟨y, e⟩ := h.st kv hk
  show kV kv.1 = V.str (mkS (txOf kv.1))
  rw [e]
  show V.str y = V.str (mkS (cl y))
  rw [mk_cl]
theorem KeyN.mem {kvs : List (Key × V)} (h : KeyN kvs) {u : List Nat} : u ∈ txsOf kvs ↔ fnd kvs u := by
  unfold fnd txsOf
  rw [← valV_any, List.any_eq_true, List.mem_map]
  constructor
  · rintro ⟨kv, h1, h2⟩
    obtain ⟨y, e⟩ := h.st kv h1
    rw [e] at h2
    have h3 : cl y = u := h2
    exact ⟨kv, h1, by rw [e, ← h3, mk_cl]; simp⟩
  · rintro ⟨kv, h1, h2⟩
    have h3 : kv.1 = Sum.inr (mkS u) := by simpa using h2
    exact ⟨kv, h1, by rw [h3]; exact cl_mk u⟩
theorem KeyN.nodup {kvs : List (Key × V)} (h : KeyN kvs) : (txsOf kvs).Nodup := by
  have e : txsOf kvs = (kvs.map (·.1)).map txOf := by unfold txsOf; rw [List.map_map]; rfl
  rw [e]
  refine List.pairwise_map.mpr (h.nd.imp_of_mem fun {a b} ha hb hne e => hne ?_)
  obtain ⟨kv, h1, rfl⟩ := List.mem_map.mp ha
  obtain ⟨kv2, h2, rfl⟩ := List.mem_map.mp hb
  obtain ⟨y, e1⟩ := h.st kv h1
  obtain ⟨y2, e2⟩ := h.st kv2 h2
  rw [e1, e2] at e ⊢
  exact congrArg Sum.inr ((mk_cl y).symm.trans ((congrArg mkS e).trans (mk_cl y2)))
theorem KeyN.one (z : Str) (v : V) : KeyN [((Sum.inr z : Key), v)] := ⟨by simp, fun kv hk => by rw [List.mem_singleton.mp hk]; exact ⟨z, rfl⟩⟩
theorem fnd_one (z : Str) (v : V) {u : List Nat} : fnd [((Sum.inr z : Key), v)] u ↔ u = cl z := by
  unfold fnd valV
  by_cases h : u = cl z
  · subst h
    rw [mk_cl]; simp
  · have hne : ¬ ((Sum.inr z : Key) = Sum.inr (mkS u)) := fun h2 => h (by rw [Sum.inr.inj h2, cl_mk])
    simp [hne, h]
/-! all texts to which a text shrinks -/
structure BelowL (rs : List (Str × Str)) (z : List Nat) (us : List (List Nat)) : Prop where
  srt : us.Pairwise fun x y => txLe x y = true
  nd : us.Nodup
  mem : ∀ u, u ∈ us ↔ Star (RR rs) z u
theorem BelowL.eq {rs : List (Str × Str)} {z : List Nat} {us vs : List (List Nat)} (h : BelowL rs z us) (k : BelowL rs z vs) : us = vs := txs_eq h.srt k.srt h.nd k.nd fun u => by rw [h.mem, k.mem]
/-- where they lie: the text itself, or shorter ones -/
def lower (sg z : List Nat) : List (List Nat) := z :: endsUp [] sg 6
/-! the search, with a flag for each text -/
theorem fnd_same {kvs : List (Key × V)} {u w : List Nat} {v : V} (h : fnd kvs u) : fnd (putK kvs (Sum.inr (mkS u)) v) w ↔ fnd kvs w := by
  rw [fnd_put]
  exact ⟨fun z => z.elim (fun e => by rw [e]; exact h) id, .inr⟩
theorem Rch.over {rs : List (Str × Str)} {all : List (List Nat)} {z u0 : List Nat} {ok ex : List Nat → Prop} {kvs : List (Key × V)} {wl : List (List Nat)} {v : V} (x : Rch rs all z ok kvs wl ex) (h : fnd kvs u0) :
    Rch rs all z ok (putK kvs (Sum.inr (mkS u0)) v) wl ex ∧ unf all (putK kvs (Sum.inr (mkS u0)) v) = unf all kvs := by
  have hl : (putK kvs (Sum.inr (mkS u0)) v).length = kvs.length := by
    have := congrArg List.length (putK_old (v := v) (show (valV kvs (Sum.inr (mkS u0))).isSome = true from h))
    simpa using this
  have hu : unf all (putK kvs (Sum.inr (mkS u0)) v) = unf all kvs := by
    unfold unf
    congr 1
    refine List.filter_congr fun w _ => ?_
    rw [decide_eq_decide.mpr (fnd_same h)]
  exact ⟨⟨fun u hu => x.st u ((fnd_same h).mp hu), fun u hu => (fnd_same h).mpr (x.w u hu), fun u hu hw => (x.c u ((fnd_same h).mp hu) hw).imp id fun ⟨a, b⟩ => ⟨a, fun w hw => (fnd_same h).mpr (b w hw)⟩, (fnd_same h).mpr x.z, by rw [hl, hu]; exact x.sz, by rw [hl]; exact x.wz⟩, hu⟩
/-- whether no rule fits, by the steps -/
def endB (rs : List (Str × Str)) (u : List Nat) : Bool := (stepsL rs u).isEmpty
/-- how many keys a dict has -/
def rLenD : List V → Hp → VK → Prop := fun xs H Q => ∃ (p : Addr) (kvs : List (Key × V)), xs = [.ref p] ∧ H p = some (.dK kvs) ∧ Q (.int ((kvs.length : Nat) : Int)) H
end Bk
set_option Elab.async false
set_option linter.all false
set_option maxRecDepth 100000
namespace Bk
open PySem PySem.Spec PyProof.Rows L2
open Cf (Step Star Nf)
/-! where a step leads, by its place and number -/
def aimOf (rs : List (Str × Str)) (u : List Nat) (p : Nat × Nat) : List Nat := u.take p.1 ++ cl (rt rs p.2) ++ u.drop (p.1 + (lf rs p.2).length)
theorem step_aim {rs : List (Str × Str)} {u : List Nat} {a n : Nat} (h : (a, n) ∈ stepsL rs u) : ∃ l r, rs[n]? = some (l, r) ∧ a < u.length ∧ cl (usedS (mkS u) (a : Nat) l r) = aimOf rs u (a, n) ∧ Step (RR rs) u (aimOf rs u (a, n)) := by
  unfold stepsL at h
  obtain ⟨p, hp, h2⟩ := List.mem_flatMap.mp h
  obtain ⟨k, hk, e⟩ := List.mem_map.mp h2
  cases e
  obtain ⟨l, r, h3, y, hy⟩ := fitsAt_mem.mp hk
  have ha := List.mem_range.mp hp
  refine ⟨l, r, h3, ha, ?_, u.take a, cl l, cl r, y, ⟨(l, r), List.mem_of_getElem? h3, rfl, rfl⟩, ?_, ?_⟩
  · unfold usedS aimOf
    rw [cl_app, cl_app, cutS_hi (z := mkS u) a rfl, cutS_lo (z := mkS u) (a + l.length) (by omega), cl_mk, cl_mk, cl_mk, lf_of h3, rt_of h3]
  · rw [List.append_assoc, hy, List.take_append_drop]
  · unfold aimOf
    rw [lf_of h3, rt_of h3]
    show u.take a ++ cl r ++ u.drop (a + l.length) = _
    rw [← List.drop_drop, ← hy, ← len_cl, List.drop_left]
theorem step_in {rs : List (Str × Str)} (g : Good rs) {u v : List Nat} (h : Step (RR rs) u v) : ∃ p ∈ stepsL rs u, aimOf rs u p = v := by
  obtain ⟨x, l, r, y, ⟨q, hq, e1, e2⟩, e3, e4⟩ := h
  obtain ⟨n, hn, en⟩ := List.getElem_of_mem hq
  have hr : rs[n]? = some (q.1, q.2) := by rw [List.getElem?_eq_getElem hn, en]
  have hpos := left_pos g hq
  have hd : u.drop x.length = l ++ y := by rw [e3, List.append_assoc, List.drop_left]
  refine ⟨(x.length, n), List.mem_flatMap.mpr ⟨x.length, List.mem_range.mpr ?_, List.mem_map.mpr ⟨n, fitsAt_mem.mpr ⟨q.1, q.2, hr, ?_⟩, rfl⟩⟩, ?_⟩
  · rw [e3, List.length_append, List.length_append, ← e1]; omega
  · rw [hd, e1]; exact List.prefix_append _ _
  · unfold aimOf
    rw [lf_of hr, rt_of hr]
    show u.take x.length ++ cl q.2 ++ u.drop (x.length + q.1.length) = v
    rw [← List.drop_drop, hd, ← len_cl, e1, List.drop_left, e2, e4]
    congr 2
    rw [e3, List.append_assoc, List.take_left]
/-! the flags -/
def Flag (rs : List (Str × Str)) (kvs : List (Key × V)) (wl : List (List Nat)) : Prop := ∀ u v, valV kvs (Sum.inr (mkS u)) = some v → v = .bl (if u ∈ wl then true else endB rs u)
def FlagAt (rs : List (Str × Str)) (kvs : List (Key × V)) (wl : List (List Nat)) (u0 : List Nat) (i : Nat) : Prop := ∀ u v, valV kvs (Sum.inr (mkS u)) = some v → v = .bl (if u ∈ wl then true else if u = u0 then decide (i = 0) else endB rs u)
theorem Flag.pop {rs : List (Str × Str)} {kvs : List (Key × V)} {wl : List (List Nat)} {u0 : List Nat} (h : Flag rs kvs (wl ++ [u0])) : FlagAt rs kvs wl u0 0 := fun u v e => by
  rw [h u v e]
  by_cases h1 : u ∈ wl
  · rw [if_pos h1, if_pos (List.mem_append_left _ h1)]
  · rw [if_neg h1]
    by_cases h2 : u = u0
    · rw [if_pos h2, if_pos (List.mem_append_right _ (List.mem_singleton.mpr h2))]; rfl
    · rw [if_neg h2, if_neg fun z => (List.mem_append.mp z).elim h1 fun y => h2 (List.mem_singleton.mp y)]
theorem FlagAt.off {rs : List (Str × Str)} {kvs : List (Key × V)} {wl : List (List Nat)} {u0 : List Nat} {i : Nat} (h : FlagAt rs kvs wl u0 i) (hw : u0 ∉ wl) : FlagAt rs (putK kvs (Sum.inr (mkS u0)) (.bl false)) wl u0 (i + 1) := fun u v e => by
  rw [valV_put] at e
  by_cases h2 : u = u0
  · subst h2
    rw [if_pos rfl] at e
    cases e
    rw [if_neg hw, if_pos rfl]; simp
  · rw [if_neg fun z => h2 (mk_iff.mp (Sum.inr.inj z))] at e
    rw [h u v e, if_neg h2, if_neg h2]
theorem FlagAt.push {rs : List (Str × Str)} {kvs : List (Key × V)} {wl : List (List Nat)} {u0 w : List Nat} {i : Nat} (h : FlagAt rs kvs wl u0 i) : FlagAt rs (putK kvs (Sum.inr (mkS w)) (.bl true)) (wl ++ [w]) u0 i := fun u v e => by
  rw [valV_put] at e
  by_cases h2 : u = w
  · subst h2
    rw [if_pos rfl] at e
    cases e
    rw [if_pos (List.mem_append_right _ (List.mem_singleton.mpr rfl))]
  · rw [if_neg fun z => h2 (mk_iff.mp (Sum.inr.inj z))] at e
    rw [h u v e]
    by_cases h1 : u ∈ wl
    · rw [if_pos h1, if_pos (List.mem_append_left _ h1)]
    · rw [if_neg h1, if_neg fun z => (List.mem_append.mp z).elim h1 fun y => h2 (List.mem_singleton.mp y)]
theorem FlagAt.done {rs : List (Str × Str)} {kvs : List (Key × V)} {wl : List (List Nat)} {u0 : List Nat} {i : Nat} (h : FlagAt rs kvs wl u0 i) (hi : i = (stepsL rs u0).length) : Flag rs kvs wl := fun u v e => by
  rw [h u v e]
  by_cases h1 : u ∈ wl
  · rw [if_pos h1, if_pos h1]
  · rw [if_neg h1, if_neg h1]
    by_cases h2 : u = u0
    · subst h2
      rw [if_pos rfl, hi]
      unfold endB
      congr 1
      cases stepsL rs u <;> simp
    · rw [if_neg h2]
theorem Flag.one (rs : List (Str × Str)) (z : Str) : Flag rs [((Sum.inr z : Key), V.bl true)] [cl z] := fun u v e => by
  have hf : fnd [((Sum.inr z : Key), V.bl true)] u := by unfold fnd; rw [e]; rfl
  have hu := (fnd_one z _).mp hf
  subst hu
  rw [mk_cl] at e
  have e2 : valV [((Sum.inr z : Key), V.bl true)] (Sum.inr z) = some (.bl true) := by simp [valV]
  rw [e2] at e
  cases e
  rw [if_pos (List.mem_singleton.mpr rfl)]
end Bk
set_option Elab.async false
set_option linter.all false
set_option maxRecDepth 100000
namespace Bk
open PySem PySem.Spec PyProof.Rows L2
open Cf (Step Star Nf)
/-! a call of one of two functions, by a name that holds it -/
def tCallV (f₁ f₂ : Addr) (sp₁ sp₂ : Sp) (E : L2.St → XK) (tf : TE) (t : TA) : TE := fun σ H Q => tf σ H fun y H1 => (y = V.ref f₁ ∧ t σ H1 fun vs H2 => sp₁ vs H2 Q (E σ)) ∨ (y = V.ref f₂ ∧ t σ H1 fun vs H2 => sp₂ vs H2 Q (E σ))
/-! x in a tuple -/
def rInT (K : PySem.W.Frag) : R2 := fun x y H Q => ∃ d ds, Dp K H x d ∧ Dp K H y (.tuple ds) ∧ SeqAt.shaped d = true ∧ SeqAt.shaped (.tuple ds) = true ∧ Q (.bl (ds.any fun z => PyData.eqv z d)) H
/-! a text some times over -/
def rRepS : R2 := fun x y H Q => ∃ z n, x = .str z ∧ y = .int n ∧ MulOk z n ∧ Q (.str (Txt.mul z n)) H
theorem nodup_le {α : Type} [DecidableEq α] : ∀ {us vs : List α}, us.Nodup → (∀ x ∈ us, x ∈ vs) → us.length ≤ vs.length
  | [], _, _, _ => Nat.zero_le _
  | u :: us, vs, nd, h => by
    obtain ⟨n1, n2⟩ := List.nodup_cons.mp nd
    obtain ⟨s, t, rfl⟩ := List.append_of_mem (h u List.mem_cons_self)
    have := nodup_le (vs := s ++ t) n2 fun x hx => by
      rcases List.mem_append.mp (h x (List.mem_cons_of_mem _ hx)) with z | z
      · exact List.mem_append_left _ z
      · rcases List.mem_cons.mp z with z | z
        · exact absurd (z ▸ hx) n1
        · exact List.mem_append_right _ z
    rw [List.length_append] at this ⊢
    simp only [List.length_cons]; omega
/-! the texts below (ab)(ab).. when a and b go away -/
/-- texts that are read off a row in which two signs take turns: the sign of the turn costs one, the other one two -/
def cheap (a b : Nat) : Nat → List (List Nat)
  | 0 => [[]]
  | 1 => [[], [a]]
  | n + 2 => [] :: ((cheap b a (n + 1)).map (a :: ·) ++ (cheap a b n).map (b :: ·))
def turns (a b : Nat) : Nat → List Nat
  | 0 => []
  | n + 1 => a :: turns b a n
/-- the book in which both signs go away -/
def tall : List (Str × Str) := [("a", ""), ("b", "")]
end Bk
set_option Elab.async false
set_option linter.all false
set_option maxRecDepth 100000
set_option maxHeartbeats 1000000
namespace Bk
open PySem PySem.Spec PyProof.Rows L2
open Cf (Step Star Nf Meets)
/-! a book whose overlaps all meet is settled -/
theorem ov_in {rs : List (Str × Str)} {i j p : Nat} {l r l2 r2 z : Str} (e1 : rs[i]? = some (l, r)) (e2 : rs[j]? = some (l2, r2)) (hp : p < l.length) (h0 : 0 < p ∨ i < j) (h : ovText l (p : Nat) l2 = some z) : (z, i, p, j) ∈ ovAll rs := by
  have hi := (List.getElem?_eq_some_iff.mp e1).1
  have hj := (List.getElem?_eq_some_iff.mp e2).1
  refine List.mem_flatMap.mpr ⟨i, List.mem_range.mpr hi, List.mem_flatMap.mpr ⟨j, List.mem_range.mpr hj, ?_⟩⟩
  unfold ovCell
  rw [lf_of e1, lf_of e2, ← lawCell_all]
  refine List.mem_flatMap.mpr ⟨p, List.mem_range.mpr hp, ?_⟩
  rw [if_pos h0]
  unfold ovAt
  rw [h]
  exact List.mem_singleton.mpr rfl
theorem ovText_over {l o : Str} {a b c : List Nat} (hl : cl l = a ++ b) (ho : cl o = b ++ c) : ovText l (a.length : Nat) o = some (mkS (a ++ b ++ c)) := by
  have h1 := len_cl l
  have h2 := len_cl o
  rw [hl, List.length_append] at h1
  rw [ho, List.length_append] at h2
  unfold ovText
  rw [bothOf_nat (by omega), show min (l.length - a.length) o.length = b.length by omega]
  rw [cutS_mid (z := l) a.length (a.length + b.length) rfl (by omega) (by omega), cutS_hi (z := o) b.length rfl, cutS_lo (z := o) b.length rfl, hl, ho, List.drop_left, Nat.add_sub_cancel_left, List.take_length, List.take_left, List.drop_left, if_pos rfl]
  congr 1
  rw [← mk_cl (l ++ mkS c), cl_app, cl_mk, hl]
theorem ovText_inside {l o : Str} {a c : List Nat} (hl : cl l = a ++ cl o ++ c) : ovText l (a.length : Nat) o = some l := by
  have h1 := len_cl l
  have h2 := len_cl o
  rw [hl, List.length_append, List.length_append] at h1
  unfold ovText
  rw [bothOf_nat (by omega), show min (l.length - a.length) o.length = o.length by omega]
  rw [cutS_mid (z := l) a.length (a.length + o.length) rfl (by omega) (by omega), cutS_hi (z := o) o.length rfl, cutS_lo (z := o) o.length rfl, hl, List.append_assoc, List.drop_left, Nat.add_sub_cancel_left, ← h2, List.take_left, List.take_length, List.drop_length, if_pos rfl]
  congr 1
theorem meets_iff {rs : List (Str × Str)} {i j p : Nat} {l r l2 r2 z : Str} (e1 : rs[i]? = some (l, r)) (e2 : rs[j]? = some (l2, r2)) : meets rs (z, i, p, j) ↔ overP rs (cl (usedS z 0 l r)) = overP rs (cl (usedS z (p : Nat) l2 r2)) := by
  unfold meets
  simp only
  rw [lf_of e1, rt_of e1, lf_of e2, rt_of e2]
theorem set_of_meets {rs : List (Str × Str)} (g : Good rs) (h : ∀ o ∈ ovAll rs, meets rs o) : Settled rs := by
  have at0 : ∀ {z l r : Str} {y : List Nat}, cl z = cl l ++ y → cl (usedS z 0 l r) = cl r ++ y := fun {z l r y} e => by
    have := cl_used (z := z) (l := l) (r := r) (x := []) (y := y) (k := 0) (by simpa using e) rfl
    simpa using this
  have same : ∀ {i j : Nat} {l r l2 r2 : Str}, rs[i]? = some (l, r) → rs[j]? = some (l2, r2) → ∀ {a b c : List Nat}, cl l = a ++ b → cl l2 = b ++ c → b ≠ [] → overP rs (cl r ++ c) = overP rs (a ++ cl r2) := by
    intro i j l r l2 r2 e1 e2 a b c hl ho hb
    have hbl : 0 < b.length := List.length_pos_iff.mpr hb
    have h1 := len_cl l
    rw [hl, List.length_append] at h1
    have h2 := len_cl l2
    rw [ho, List.length_append] at h2
    by_cases h0 : 0 < a.length ∨ i < j
    · have m := (meets_iff e1 e2).mp (h _ (ov_in e1 e2 (by omega) h0 (ovText_over hl ho)))
      rw [at0 (y := c) (by rw [cl_mk, hl]), cl_used (x := a) (y := []) (k := (a.length : Nat)) (by rw [cl_mk, ho]; simp) rfl, List.append_nil] at m
      exact m
    · have ha : a = [] := List.length_eq_zero_iff.mp (by omega)
      subst ha
      by_cases hij : i = j
      · subst hij
        rw [e1] at e2
        cases e2
        rw [hl] at ho
        have hc : c = [] := by
          have := congrArg List.length ho
          rw [List.length_append, List.length_append] at this
          exact List.length_eq_zero_iff.mp (by simp at this; omega)
        subst hc
        simp
      · have hl' : cl l2 = [] ++ cl l ++ c := by rw [hl, ho]; simp
        have m := (meets_iff e2 e1).mp (h _ (ov_in (p := 0) e2 e1 (by omega) (.inr (by omega)) (ovText_inside hl')))
        rw [at0 (y := []) (by simp)] at m
        have e9 := at0 (z := l2) (l := l) (r := r) (y := c) (by rw [hl']; simp)
        rw [show (((0 : Nat) : Int)) = 0 from rfl, e9] at m
        simpa using m.symm
  refine ⟨?_, ?_⟩
  · rintro l1 r1 l2 r2 a b c ⟨p, hp, e1, e2⟩ ⟨q, hq, e3, e4⟩ hb el1 el2
    obtain ⟨i, hi, ei⟩ := List.getElem_of_mem hp
    obtain ⟨j, hj, ej⟩ := List.getElem_of_mem hq
    have := same (i := i) (j := j) (l := p.1) (r := p.2) (l2 := q.1) (r2 := q.2) (by rw [List.getElem?_eq_getElem hi, ei]) (by rw [List.getElem?_eq_getElem hj, ej]) (by rw [e1]; exact el1) (by rw [e3]; exact el2) hb
    rw [e2, e4] at this
    exact this
  · rintro l1 r1 l2 r2 a c ⟨p, hp, e1, e2⟩ ⟨q, hq, e3, e4⟩ el1
    obtain ⟨i, hi, ei⟩ := List.getElem_of_mem hp
    obtain ⟨j, hj, ej⟩ := List.getElem_of_mem hq
    have f1 : rs[i]? = some (p.1, p.2) := by rw [List.getElem?_eq_getElem hi, ei]
    have f2 : rs[j]? = some (q.1, q.2) := by rw [List.getElem?_eq_getElem hj, ej]
    have hq0 := left_pos g hq
    have hl : cl p.1 = a ++ cl q.1 ++ c := by rw [e1, e3]; exact el1
    have h1 := len_cl p.1
    rw [hl, List.length_append, List.length_append] at h1
    by_cases h0 : 0 < a.length ∨ i < j
    · have m := (meets_iff f1 f2).mp (h _ (ov_in f1 f2 (by omega) h0 (ovText_inside hl)))
      rw [at0 (y := []) (by simp), cl_used (x := a) (y := c) (k := (a.length : Nat)) hl rfl, List.append_nil, e2, e4] at m
      exact m
    · have ha : a = [] := List.length_eq_zero_iff.mp (by omega)
      subst ha
      have hne : cl q.1 ≠ [] := fun z => by rw [z] at hq0; exact absurd hq0 (by simp)
      have m := same f2 f1 (a := []) (b := cl q.1) (c := c) (by simp) (by rw [hl]; simp) hne
      rw [e2, e4] at m
      simpa using m.symm
end Bk
set_option Elab.async false
set_option linter.all false
set_option maxRecDepth 100000
set_option maxHeartbeats 1000000
namespace Cf
variable {R : List Nat → List Nat → Prop}
/-! confluence below a bound: the overlaps that are asked to meet are those of texts in P -/
structure MeetsB (R : List Nat → List Nat → Prop) (nf : List Nat → List Nat) (P : List Nat → Prop) : Prop where
  over : ∀ l1 r1 l2 r2 a b c, R l1 r1 → R l2 r2 → b ≠ [] → l1 = a ++ b → l2 = b ++ c → P (a ++ b ++ c) → nf (r1 ++ c) = nf (a ++ r2)
  inside : ∀ l1 r1 l2 r2 a c, R l1 r1 → R l2 r2 → l1 = a ++ l2 ++ c → P l1 → nf r1 = nf (a ++ r2 ++ c)
def Down (P : List Nat → Prop) : Prop := ∀ u v, P u → v.length < u.length → P v
theorem Down.part {P : List Nat → Prop} (h : Down P) {x o y : List Nat} (p : P (x ++ o ++ y)) : P o := by
  by_cases e : x.length + y.length = 0
  · have hx : x = [] := List.length_eq_zero_iff.mp (by omega)
    have hy : y = [] := List.length_eq_zero_iff.mp (by omega)
    subst hx; subst hy
    simpa using p
  · exact h _ _ p (by rw [List.length_append, List.length_append]; omega)
theorem Nf.mainB {nf : List Nat → List Nat} (N : Nf R nf) {P : List Nat → Prop} (hP : Down P) (M : MeetsB R nf P) : ∀ n u v, u.length ≤ n → P u → Step R u v → nf u = nf v := by
  intro n
  induction n with
  | zero => intro u v h _ s; have := s.lt N.short; omega
  | succ n ih =>
    have star_eq : ∀ {u v : List Nat}, u.length ≤ n → P u → Star R u v → nf u = nf v := by
      intro u v h p s
      induction s with
      | refl => rfl
      | head s t ih2 => exact (ih _ _ h p s).trans (ih2 (by have := s.lt N.short; omega) (hP _ _ p (s.lt N.short)))
    have pair : ∀ (x1 l1 r1 y1 x2 l2 r2 y2 : List Nat), R l1 r1 → R l2 r2 → (x1 ++ l1 ++ y1).length ≤ n + 1 → P (x1 ++ l1 ++ y1) → x1 ++ l1 ++ y1 = x2 ++ l2 ++ y2 → (∃ e, x2 = x1 ++ e) → nf (x1 ++ r1 ++ y1) = nf (x2 ++ r2 ++ y2) := by
      rintro x1 l1 r1 y1 x2 l2 r2 y2 h1 h2 hl p e ⟨d, rfl⟩
      have s1 := N.short _ _ h1
      have s2 := N.short _ _ h2
      have e' : l1 ++ y1 = d ++ l2 ++ y2 := by
        rw [List.append_assoc, List.append_assoc, List.append_assoc] at e
        rw [List.append_assoc]; exact List.append_cancel_left e
      have join : ∀ (o o1 o2 x y : List Nat), Step R o o1 → Step R o o2 → nf o1 = nf o2 → (x ++ o ++ y).length ≤ n + 1 → P (x ++ o ++ y) → nf (x ++ o1 ++ y) = nf (x ++ o2 ++ y) := by
        intro o o1 o2 x y k1 k2 e hl p
        have l1 := k1.lt N.short
        have l2 := k2.lt N.short
        simp at hl
        have a1 := star_eq (u := x ++ o1 ++ y) (by simp; omega) (hP _ _ p (by simp; omega)) ((N.star o1).ctx x y)
        have a2 := star_eq (u := x ++ o2 ++ y) (by simp; omega) (hP _ _ p (by simp; omega)) ((N.star o2).ctx x y)
        rw [a1, a2, e]
      rcases split2 (show l1 ++ y1 = d ++ (l2 ++ y2) by rw [e', List.append_assoc]) with ⟨b, rfl, hb⟩ | ⟨b, rfl, hb⟩
      · subst hb
        have z1 : Step R (x1 ++ r1 ++ (b ++ l2 ++ y2)) (x1 ++ r1 ++ (b ++ r2 ++ y2)) := ⟨x1 ++ r1 ++ b, l2, r2, y2, h2, by simp, by simp⟩
        have z2 : Step R (x1 ++ (l1 ++ b) ++ r2 ++ y2) (x1 ++ r1 ++ (b ++ r2 ++ y2)) := ⟨x1, l1, r1, b ++ r2 ++ y2, h1, by simp, by simp⟩
        simp at hl
        have q1 := ih _ _ (by simp; omega) (hP _ _ p (by simp; omega)) z1
        have q2 := ih _ _ (by simp; omega) (hP _ _ p (by simp; omega)) z2
        rw [show x1 ++ r1 ++ (b ++ (l2 ++ y2)) = x1 ++ r1 ++ (b ++ l2 ++ y2) by simp, q1, q2]
      · by_cases hb0 : b = []
        · subst hb0
          simp at hb
          have z1 : Step R (x1 ++ r1 ++ (l2 ++ y2)) (x1 ++ r1 ++ (r2 ++ y2)) := ⟨x1 ++ r1, l2, r2, y2, h2, by simp, by simp⟩
          have z2 : Step R (x1 ++ d ++ r2 ++ y2) (x1 ++ r1 ++ (r2 ++ y2)) := ⟨x1, d, r1, r2 ++ y2, by simpa using h1, by simp, by simp⟩
          subst hb
          have w1 : (x1 ++ r1 ++ (l2 ++ y2)).length < (x1 ++ (d ++ []) ++ (l2 ++ y2)).length := by simp at s1 ⊢; omega
          have w2 : (x1 ++ d ++ r2 ++ y2).length < (x1 ++ (d ++ []) ++ (l2 ++ y2)).length := by simp; omega
          have q1 := ih _ _ (by omega) (hP _ _ p w1) z1
          have q2 := ih _ _ (by omega) (hP _ _ p w2) z2
          rw [q1, q2]
        · rcases split2 hb with ⟨c, rfl, hc⟩ | ⟨c, rfl, hc⟩
          · subst hc
            have k1 : Step R (d ++ (l2 ++ c)) r1 := ⟨[], d ++ (l2 ++ c), r1, [], h1, by simp, by simp⟩
            have k2 : Step R (d ++ (l2 ++ c)) (d ++ r2 ++ c) := ⟨d, l2, r2, c, h2, by simp, by simp⟩
            have m := M.inside _ _ _ _ d c h1 h2 (by simp) (hP.part p)
            have := join _ _ _ x1 y1 k1 k2 m hl p
            rw [this]
            simp
          · subst hc
            have k1 : Step R (d ++ (b ++ c)) (r1 ++ c) := ⟨[], d ++ b, r1, c, h1, by simp, by simp⟩
            have k2 : Step R (d ++ (b ++ c)) (d ++ r2) := ⟨d, b ++ c, r2, [], h2, by simp, by simp⟩
            have p' : P (x1 ++ (d ++ (b ++ c)) ++ y2) := by simpa using p
            have m := M.over _ _ _ _ d b c h1 h2 hb0 rfl rfl (by have := hP.part p'; simpa using this)
            have := join _ _ _ x1 y2 k1 k2 m (by simp at hl ⊢; omega) p'
            simp at this ⊢
            exact this
    have pair' : ∀ u v w, u.length ≤ n + 1 → P u → Step R u v → Step R u w → nf v = nf w := by
      rintro u v w hu p ⟨x1, l1, r1, y1, h1, rfl, rfl⟩ ⟨x2, l2, r2, y2, h2, e, rfl⟩
      rcases split2 (show x1 ++ (l1 ++ y1) = x2 ++ (l2 ++ y2) by simpa using e) with ⟨d, hd, _⟩ | ⟨d, hd, _⟩
      · exact pair _ _ _ _ _ _ _ _ h1 h2 hu p e ⟨d, hd⟩
      · exact (pair _ _ _ _ _ _ _ _ h2 h1 (by rw [← e]; exact hu) (by rw [← e]; exact p) e.symm ⟨d, hd⟩).symm
    intro u v hu p s
    have hs := N.star u
    have hn := N.nf_nf u
    generalize ht : nf u = t at hs hn
    cases hs with
    | refl => exact absurd s fun s => N.stop u v (by rw [ht]; exact s)
    | head s0 t0 =>
      have e1 := pair' _ _ _ hu p s s0
      have e2 := star_eq (by have := s0.lt N.short; omega) (hP _ _ p (s0.lt N.short)) t0
      rw [e1, e2, hn]
theorem Nf.stepB {nf : List Nat → List Nat} (N : Nf R nf) {P : List Nat → Prop} (hP : Down P) (M : MeetsB R nf P) {u v : List Nat} (p : P u) (h : Step R u v) : nf u = nf v := N.mainB hP M _ _ _ (Nat.le_refl _) p h
theorem Nf.onlyB {nf : List Nat → List Nat} (N : Nf R nf) {P : List Nat → Prop} (hP : Down P) (M : MeetsB R nf P) {u v : List Nat} (p : P u) (h : Star R u v) (hv : ∀ w, ¬ Step R v w) : v = nf u := by
  have key : ∀ {u v : List Nat}, Star R u v → P u → nf u = nf v := by
    intro u v h
    induction h with
    | refl => intro _; rfl
    | head s _ ih => intro p; exact (N.stepB hP M p s).trans (ih (hP _ _ p (s.lt N.short)))
  rw [key h p, N.fix hv]
end Cf
set_option Elab.async false
set_option linter.all false
set_option maxRecDepth 100000
set_option maxHeartbeats 1000000
namespace Bk
open PySem PySem.Spec PyProof.Rows L2
open Cf (Step Star Nf MeetsB Down)
theorem lt_trans5 {a b c : Ov} (h : PySem.W.dataLt (ov5 a) (ov5 b) = true) (k : PySem.W.dataLt (ov5 b) (ov5 c) = true) : PySem.W.dataLt (ov5 a) (ov5 c) = true := by
  unfold ov5 at h k ⊢
  rw [PySem.W.dataLt_tuple] at h k ⊢
  exact lex_trans _ _ _ h k
theorem lt_same5 {a b : Ov} (h : PySem.W.dataLt (ov5 a) (ov5 b) = false) (k : PySem.W.dataLt (ov5 b) (ov5 a) = false) (c : Ov) : PySem.W.dataLt (ov5 c) (ov5 a) = PySem.W.dataLt (ov5 c) (ov5 b) := by
  unfold ov5 at h k ⊢
  rw [PySem.W.dataLt_tuple] at h k
  rw [PySem.W.dataLt_tuple, PySem.W.dataLt_tuple, lex_total _ _ h k]
theorem leO_trans (a b c : Ov) (h : leO a b = true) (k : leO b c = true) : leO a c = true := by
  unfold leO at *
  rw [Bool.not_eq_true'] at *
  cases e : PySem.W.dataLt (ov5 c) (ov5 a) with
  | false => rfl
  | true =>
    exfalso
    cases e2 : PySem.W.dataLt (ov5 a) (ov5 b) with
    | true =>
      rw [lt_trans5 e e2] at k
      cases k
    | false =>
      rw [lt_same5 e2 h c, k] at e
      cases e
theorem leO_total (a b : Ov) : (leO a b || leO b a) = true := by
  unfold leO
  cases e : PySem.W.dataLt (ov5 b) (ov5 a) with
  | false => rfl
  | true =>
    cases e2 : PySem.W.dataLt (ov5 a) (ov5 b) with
    | false => rfl
    | true =>
      have := lt_trans5 e e2
      rw [PySem.W.dataLt_self] at this
      cases this
theorem ovDue_sorted (rs : List (Str × Str)) : (ovDue rs).Pairwise fun a b => leO a b = true := List.pairwise_mergeSort leO_trans leO_total _
theorem leO_tx {a b : Ov} (h : leO a b = true) : txLe (cl a.1) (cl b.1) = true := by
  cases e : txLe (cl a.1) (cl b.1) with
  | true => rfl
  | false =>
    exfalso
    have hl : PySem.W.dataLt (ov5 b) (ov5 a) = true := by
      have ai : PySem.W.alike (.int (b.1.length : Nat)) (.int (a.1.length : Nat)) = true := by simp [PySem.W.alike]
      have as : PySem.W.alike (.str b.1) (.str a.1) = true := by simp [PySem.W.alike]
      have ha := len_cl a.1
      have hb := len_cl b.1
      unfold ov5
      rw [PySem.W.dataLt_tuple, PySem.W.dataLt_cons ai, PySem.W.dataLt_int]
      have ne : ¬ (txLe (cl a.1) (cl b.1) = true) := by rw [e]; simp
      rw [txLe_iff] at ne
      by_cases hlen : b.1.length = a.1.length
      · rw [if_pos (by simp [PyData.eqv, hlen]), PySem.W.dataLt_cons as, PySem.W.dataLt_str]
        have nle : ¬ cl a.1 ≤ cl b.1 := fun z => ne (.inr ⟨by omega, z⟩)
        have hlt : cl b.1 < cl a.1 := List.not_le.mp nle
        rw [if_neg, decide_eq_true_iff]
        · exact hlt
        · intro z
          have ez : b.1 = a.1 := by simpa [PyData.eqv] using z
          rw [ez] at nle
          exact nle (List.le_refl _)
      · rw [if_neg (by simp [PyData.eqv]; omega), decide_eq_true_iff]
        have : ¬ (cl a.1).length < (cl b.1).length := fun z => ne (.inl z)
        omega
    unfold leO at h
    rw [hl] at h
    cases h
theorem quar_below {rs : List (Str × Str)} {os : List Ov} {z : Str} (hs : OvSorted os (ovAll rs)) (q : QuarAt rs os (.str z)) :
    (∀ o ∈ ovAll rs, txLe (cl o.1) (cl z) = true → cl o.1 ≠ cl z → meets rs o) ∧ ∃ o ∈ ovAll rs, o.1 = z ∧ ¬ meets rs o := by
  have e := hs.eq
  subst e
  rcases q with ⟨e, _⟩ | ⟨k, o, h1, h2, h3, h4⟩
  · cases e
  · cases h4
    have hsrt := ovDue_sorted rs
    refine ⟨fun o' ho' hle hne => ?_, o, ovDue_mem.mp (List.mem_of_getElem? h1), rfl, h2⟩
    obtain ⟨m, hm, em⟩ := List.getElem_of_mem (ovDue_mem.mpr ho')
    by_cases hmk : m < k
    · exact h3 m o' hmk (by rw [show (ovAll rs).mergeSort leO = ovDue rs from rfl, List.getElem?_eq_getElem hm, em])
    · exfalso
      obtain ⟨hk, ek⟩ := List.getElem?_eq_some_iff.mp h1
      change (ovDue rs)[k] = o at ek
      by_cases hek : m = k
      · subst hek
        have eo : o' = o := em.symm.trans ek
        exact hne (by rw [eo])
      · have := List.pairwise_iff_getElem.mp hsrt k m hk hm (by omega)
        have t2 : leO o o' = true := by
          have e1 : (ovDue rs)[k] = o := ek
          rw [← e1, ← em]; exact this
        exact hne (txLe_anti hle (leO_tx t2))
theorem meetsB_of {rs : List (Str × Str)} (g : Good rs) {P : List Nat → Prop} (h : ∀ o ∈ ovAll rs, P (cl o.1) → meets rs o) : MeetsB (RR rs) (overP rs) P := by
  have at0 : ∀ {z l r : Str} {y : List Nat}, cl z = cl l ++ y → cl (usedS z 0 l r) = cl r ++ y := fun {z l r y} e => by
    have := cl_used (z := z) (l := l) (r := r) (x := []) (y := y) (k := 0) (by simpa using e) rfl
    simpa using this
  have same : ∀ {i j : Nat} {l r l2 r2 : Str}, rs[i]? = some (l, r) → rs[j]? = some (l2, r2) → ∀ {a b c : List Nat}, cl l = a ++ b → cl l2 = b ++ c → b ≠ [] → P (a ++ b ++ c) → overP rs (cl r ++ c) = overP rs (a ++ cl r2) := by
    intro i j l r l2 r2 e1 e2 a b c hl ho hb hp
    have hbl : 0 < b.length := List.length_pos_iff.mpr hb
    have h1 := len_cl l
    rw [hl, List.length_append] at h1
    have h2 := len_cl l2
    rw [ho, List.length_append] at h2
    by_cases h0 : 0 < a.length ∨ i < j
    · have m := (meets_iff e1 e2).mp (h _ (ov_in e1 e2 (by omega) h0 (ovText_over hl ho)) (by show P (cl (mkS _)); rw [cl_mk]; exact hp))
      rw [at0 (y := c) (by rw [cl_mk, hl]), cl_used (x := a) (y := []) (k := (a.length : Nat)) (by rw [cl_mk, ho]; simp) rfl, List.append_nil] at m
      exact m
    · have ha : a = [] := List.length_eq_zero_iff.mp (by omega)
      subst ha
      by_cases hij : i = j
      · subst hij
        rw [e1] at e2
        cases e2
        rw [hl] at ho
        have hc : c = [] := by
          have := congrArg List.length ho
          rw [List.length_append, List.length_append] at this
          exact List.length_eq_zero_iff.mp (by simp at this; omega)
        subst hc
        simp
      · have hl' : cl l2 = [] ++ cl l ++ c := by rw [hl, ho]; simp
        have m := (meets_iff e2 e1).mp (h _ (ov_in (p := 0) e2 e1 (by omega) (.inr (by omega)) (ovText_inside hl')) (by show P (cl l2); rw [ho]; simpa using hp))
        rw [at0 (y := []) (by simp)] at m
        have e9 := at0 (z := l2) (l := l) (r := r) (y := c) (by rw [hl']; simp)
        rw [show (((0 : Nat) : Int)) = 0 from rfl, e9] at m
        simpa using m.symm
  refine ⟨?_, ?_⟩
  · rintro l1 r1 l2 r2 a b c ⟨p, hp, e1, e2⟩ ⟨q, hq, e3, e4⟩ hb el1 el2 hP
    obtain ⟨i, hi, ei⟩ := List.getElem_of_mem hp
    obtain ⟨j, hj, ej⟩ := List.getElem_of_mem hq
    have := same (i := i) (j := j) (l := p.1) (r := p.2) (l2 := q.1) (r2 := q.2) (by rw [List.getElem?_eq_getElem hi, ei]) (by rw [List.getElem?_eq_getElem hj, ej]) (by rw [e1]; exact el1) (by rw [e3]; exact el2) hb hP
    rw [e2, e4] at this
    exact this
  · rintro l1 r1 l2 r2 a c ⟨p, hp, e1, e2⟩ ⟨q, hq, e3, e4⟩ el1 hP
    obtain ⟨i, hi, ei⟩ := List.getElem_of_mem hp
    obtain ⟨j, hj, ej⟩ := List.getElem_of_mem hq
    have f1 : rs[i]? = some (p.1, p.2) := by rw [List.getElem?_eq_getElem hi, ei]
    have f2 : rs[j]? = some (q.1, q.2) := by rw [List.getElem?_eq_getElem hj, ej]
    have hq0 := left_pos g hq
    have hl : cl p.1 = a ++ cl q.1 ++ c := by rw [e1, e3]; exact el1
    have h1 := len_cl p.1
    rw [hl, List.length_append, List.length_append] at h1
    by_cases h0 : 0 < a.length ∨ i < j
    · have m := (meets_iff f1 f2).mp (h _ (ov_in f1 f2 (by omega) h0 (ovText_inside hl)) (by show P (cl p.1); rw [e1]; exact hP))
      rw [at0 (y := []) (by simp), cl_used (x := a) (y := c) (k := (a.length : Nat)) hl rfl, List.append_nil, e2, e4] at m
      exact m
    · have ha : a = [] := List.length_eq_zero_iff.mp (by omega)
      subst ha
      have hne : cl q.1 ≠ [] := fun z => by rw [z] at hq0; exact absurd hq0 (by simp)
      have m := same f2 f1 (a := []) (b := cl q.1) (c := c) (by simp) (by rw [hl]; simp) hne (by
        have : [] ++ cl q.1 ++ c = l1 := by rw [← hl, e1]
        rw [this]; exact hP)
      rw [e2, e4] at m
      simpa using m.symm
/-- below the quarrel -/
def Under (z u : List Nat) : Prop := txLe u z = true ∧ u ≠ z
theorem under_down (z : List Nat) : Down (Under z) := fun u v ⟨h, _⟩ hv => by
  have hl : u.length ≤ z.length := by
    rcases txLe_iff.mp h with h | ⟨h, _⟩ <;> omega
  exact ⟨txLe_iff.mpr (.inl (by omega)), fun e => by rw [e] at hv; omega⟩
/-- each text below the quarrel has one end -/
theorem quar_one {rs : List (Str × Str)} (g : Good rs) {os : List Ov} {z : Str} (hs : OvSorted os (ovAll rs)) (q : QuarAt rs os (.str z)) {u v : List Nat} (hu : Under (cl z) u) (s : Star (RR rs) u v) (hv : Irr rs v) : v = overP rs u :=
  (nf_over g).onlyB (under_down _) (meetsB_of g fun o ho hP => (quar_below hs q).1 o ho hP.1 hP.2) hu s hv
/-- the ends of the quarrel are what its steps leave over; there are two at least -/
theorem quar_ends {rs : List (Str × Str)} (g : Good rs) {os : List Ov} {z : Str} (hs : OvSorted os (ovAll rs)) (q : QuarAt rs os (.str z)) :
    (∀ v, (Star (RR rs) (cl z) v ∧ Irr rs v) ↔ ∃ p ∈ stepsL rs (cl z), overP rs (aimOf rs (cl z) p) = v) ∧ ∃ v w, v ≠ w ∧ (∃ p ∈ stepsL rs (cl z), overP rs (aimOf rs (cl z) p) = v) ∧ ∃ p ∈ stepsL rs (cl z), overP rs (aimOf rs (cl z) p) = w := by
  obtain ⟨o, ho, rfl, hn⟩ := (quar_below hs q).2
  obtain ⟨hs1, hs2⟩ := ov_steps g ho
  have hun : ∀ {w}, Step (RR rs) (cl o.1) w → Under (cl o.1) w := fun s => by
    have := s.lt (rr_short g)
    exact ⟨txLe_iff.mpr (.inl this), fun e => by rw [e] at this; omega⟩
  refine ⟨fun v => ⟨fun ⟨s, hv⟩ => ?_, fun ⟨p, hp, e⟩ => ?_⟩, ?_⟩
  · cases s with
    | refl =>
      obtain ⟨_, _, _, _, _, st⟩ := step_aim hs1
      exact absurd st (hv _)
    | head s t =>
      obtain ⟨p, hp, e⟩ := step_in g s
      exact ⟨p, hp, by rw [e]; exact (quar_one g hs q (hun s) t hv).symm⟩
  · obtain ⟨a, n⟩ := p
    obtain ⟨_, _, _, _, _, st⟩ := step_aim hp
    rw [← e]
    exact ⟨.head st ((nf_over g).star _), (nf_over g).stop _⟩
  · obtain ⟨l, r, h1, _, h3, _⟩ := step_aim hs1
    obtain ⟨l2, r2, h4, _, h6, _⟩ := step_aim hs2
    refine ⟨_, _, fun e => hn ?_, ⟨_, hs1, rfl⟩, ⟨_, hs2, rfl⟩⟩
    obtain ⟨t, i, p, j⟩ := o
    rw [meets_iff h1 h4]
    rw [mk_cl] at h3 h6
    have e3 : cl (usedS t 0 l r) = aimOf rs (cl t) (0, i) := h3
    rw [e3, h6]
    exact e
end Bk
set_option Elab.async false
set_option linter.all false
set_option maxRecDepth 100000
namespace Bk
open PySem PySem.Spec PyProof.Rows L2
/-! an instance is made in the body of a try: what its making may let out is caught at the slots there -/
theorem made_at {X : Cx} {CX : CXT} {k : Nat} {f C : Addr} {fd : FuncData} {ps : List Str} {sp : Sp} {E : XK} {pins : List (Addr × Obj)} {σ : L2.St} {H : Hp} {s : Shared} {Q : VK} {us : List Value} {vs : List V} (M : Mk X.K C f) (F : FnOk X.prog X.w X.K X.mg X.base CX k f fd ps sp) (room : Room (k + 1) X.A)
    (bind : Binds X.K fd ps []) (out : PassesAt CX X σ E) (I : Inv X pins σ H s) (r : Vals vs us) (h : ∀ x dx, H x = none → H dx = none → dx ≠ x → sp (.ref x :: vs) (upd (upd H dx (.own x)) x (.ins C dx [])) (fun v H2 => v = .non ∧ Q (.ref x) H2) E) :
    wpAny (model X.prog X.w) X.A (call (.ref C) us) (EP X pins σ Q) X.xe s := by
  generalize hn : s.heap.objs.size = n at *
  have old : s.heap.objs.size ≤ n := by omega
  have w := h (n + 1) n (I.hok.fresh (by omega)) (I.hok.fresh old) (Nat.ne_of_lt (Nat.lt_succ_self _))
  have J := Inv.made (C := C) I
  rw [hn] at J
  have rr : Vals (V.ref (n + 1) :: vs) (Value.ref (n + 1) :: us) := .cons rfl r
  have b := bind _ (Value.ref (n + 1) :: us) J.kIn (by
    have l1 := rr.length
    rw [F.len _ _ _ _ w] at l1
    rw [List.append_nil]; exact l1.symm)
  rw [List.append_nil] at b
  refine wpAny_call (make_map (f := f) I.kIn M.makes M.init (beq_iff_eq.mp M.fn) ?_)
  rw [hn]
  refine codeAny_mono (F.run _ X.stack _ _ ⟨Value.ref (n + 1) :: us, []⟩ (Value.ref (n + 1) :: us) _ _ E (room.make C us []) (J.env0.make C us []) b rr w) fun c t ht => ?_
  match c, ht with
  | .error e, ht => exact out pins _ _ e t J ht
  | .ok (.ret u), ht =>
    obtain ⟨v, H', J2, rv, ⟨ev, q⟩⟩ := J.after ht
    subst ev
    exact ⟨rv, .ref (n + 1), H', J2, rfl, q⟩
  | .ok .next, ht => exact ht.elim
  | .ok .brk, ht => exact ht.elim
  | .ok .cont, ht => exact ht.elim
def tMakeS (C : Addr) (sp : Sp) (E : L2.St → XK) (t : TA) : TE := fun σ H Q => t σ H fun vs H1 => ∀ x dx, H1 x = none → H1 dx = none → dx ≠ x → sp (.ref x :: vs) (upd (upd H1 dx (.own x)) x (.ins C dx [])) (fun v H2 => v = .non ∧ Q (.ref x) H2) (E σ)
theorem pe_makeS {X : Cx} {CX : CXT} {k : Nat} {f C : Addr} {fd : FuncData} {ps : List Str} {sp : Sp} {E : L2.St → XK} {x : Str} {p pos : Pos} {e : Expr} {es : List Expr} {t : TA} (M : Mk X.K C f) (F : FnOk X.prog X.w X.K X.mg X.base CX k f fd ps sp) (room : Room (k + 1) X.A) (gl : Gl X x) (at_ : X.mg x = some (.ref C)) (bind : Binds X.K fd ps [])
    (out : ∀ σ, PassesAt CX X σ (E σ)) (ha : PA X (e :: es) t) (dbg : (x == ("__debug__" : Str)) = false := by decide) (he : starEach (e :: es) X.env = (false, eval e X.env) :: starEach es X.env := by rfl) (plain : (backTo pos (starEach es X.env)).any (·.1) = false := by rfl) : PE X (.Call (.Name x p) (e :: es) [] pos) (tMakeS C sp E t) :=
  ⟨fun pins s σ H Q I h => wpAny_Call_Name_kw (ld_glob I gl at_ (PySem.W.callWith_K (h₀ := X.base) I.ok.mod.kin M.kp (thn (ha.run pos pins s σ H _ I h) fun us s1 ⟨vs, H1, I1, r, q⟩ => ⟨I1.kIn, made_at M F room bind (out σ) I1 r q⟩) he plain) dbg)⟩
end Bk
set_option Elab.async false
set_option linter.all false
set_option maxRecDepth 100000
namespace Bk
open PySem PySem.Spec PyProof.Rows L2
open Cf (Step Star Nf)
/-- a book has one quarrel -/
theorem quar_det {rs : List (Str × Str)} {os os' : List Ov} {v v' : V} (h : OvSorted os (ovAll rs)) (q : QuarAt rs os v) (h' : OvSorted os' (ovAll rs)) (q' : QuarAt rs os' v') : v = v' := by
  have e := h.eq.trans h'.eq.symm
  subst e
  rcases q with ⟨e, a⟩ | ⟨k, o, h1, h2, h3, e⟩ <;> rcases q' with ⟨e', a'⟩ | ⟨k', o', h1', h2', h3', e'⟩
  · rw [e, e']
  · exact absurd (a _ (List.mem_of_getElem? h1')) h2'
  · exact absurd (a' _ (List.mem_of_getElem? h1)) h2
  · have hk : k = k' := by
      rcases Nat.lt_trichotomy k k' with z | z | z
      · exact absurd (h3' _ _ z h1) h2
      · exact z
      · exact absurd (h3 _ _ z h1') h2'
    subst hk
    rw [h1] at h1'; cases h1'
    rw [e, e']
/-- how long overlaps are -/
theorem ov_short {rs : List (Str × Str)} {n : Nat} (h : ∀ q ∈ rs, 0 < q.1.length ∧ q.1.length ≤ n) {o : Ov} (ho : o ∈ ovAll rs) : o.1.length + 1 ≤ 2 * n := by
  obtain ⟨l, r, l2, r2, h1, h2, h3, h4⟩ := ov_mem ho
  obtain ⟨a1, a2⟩ := h _ (List.mem_of_getElem? h1)
  obtain ⟨b1, b2⟩ := h _ (List.mem_of_getElem? h2)
  simp only at a1 a2 b1 b2
  have hb : ∃ b : Nat, 0 < b ∧ bothOf l ((o.2.2.1 : Nat) : Int) l2 = (b : Nat) := by
    unfold bothOf
    split
    · exact ⟨l2.length, b1, rfl⟩
    · exact ⟨l.length - o.2.2.1, by omega, by omega⟩
  obtain ⟨b, hb0, hb⟩ := hb
  unfold ovText at h3
  split at h3
  · have e := Option.some.inj h3
    rw [← e, hb, cutS_lo b rfl, len_app, len_mk, List.length_drop, len_cl]
    omega
  · cases h3
/-- a quarrel is an overlap -/
theorem quar_ov {rs : List (Str × Str)} {os : List Ov} {z : Str} (hs : OvSorted os (ovAll rs)) (q : QuarAt rs os (.str z)) : ∃ o ∈ ovAll rs, o.1 = z := by
  obtain ⟨o, h1, h2, _⟩ := (quar_below hs q).2
  exact ⟨o, h1, h2⟩
/-- where there is no quarrel, each text has one end -/
theorem none_one {rs : List (Str × Str)} (g : Good rs) {os : List Ov} (hs : OvSorted os (ovAll rs)) (q : QuarAt rs os .non) {u v : List Nat} (s : Star (RR rs) u v) (hv : Irr rs v) : v = overP rs u := by
  have set : Settled rs := set_of_meets g fun o ho => by
    rcases q with ⟨_, a⟩ | ⟨_, _, _, _, _, e⟩
    · exact a o (hs.perm.mem_iff.mpr ho)
    · cases e
  exact (nf_over g).only set s hv
end Bk
set_option Elab.async false
set_option linter.all false
set_option maxRecDepth 100000
namespace K09
open PySem PySem.Spec PyProof.Rows L2
open Wp (wo_lt wo_le wo_gt wo_ge wo_eq wo_ne wo_in wo_nin wo_add wo_mul op_shlB ws_any wc_int wc_isi u65)
def topS (i : Nat) : Stmt := PySem.Challenge.pw_shrunkalike_k09_whole_settled.main.body.getD i (.Pass ⟨0, 0, 0, 0⟩)
abbrev s_is_whole : Stmt := topS 21
abbrev N_is_whole : List Str := ["thing"]
abbrev s_is_row : Stmt := topS 22
abbrev N_is_row : List Str := ["thing"]
theorem sc_is_row : FnScope N_is_row ["thing"] (defScope s_is_row) := ⟨rfl, rfl, rfl, by decide +kernel, rfl, by decide +kernel, by decide +kernel⟩
abbrev s_is_between : Stmt := topS 23
abbrev N_is_between : List Str := ["thing", "low", "high"]
abbrev s_is_text : Stmt := topS 25
abbrev N_is_text : List Str := ["signs", "thing", "most", "sign"]
theorem sc_is_text : FnScope N_is_text ["signs", "thing", "most"] (defScope s_is_text) := ⟨rfl, rfl, rfl, by decide +kernel, rfl, by decide +kernel, by decide +kernel⟩
local macro_rules | `(tactic| walk_at "W") => `(tactic| first
  | (with_reducible first
    | refine Wp.seq ?_ | refine Wp.asg ?_ | refine Wp.ret ?_ | refine Wp.retN ?_ | refine Wp.drop ?_ | refine Wp.nxt ?_ | refine Wp.ifs ?_ | refine Wp.gname ?_
    | refine Wp.op ?_ | refine Wp.un ?_ | refine Wp.tst ?_ | refine Wp.tb' ?_ | refine Wp.tnot ?_ | refine Wp.tand ?_ | refine Wp.tor ?_ | refine Wp.tandV ?_ | refine Wp.torV ?_ | refine Wp.tnotV ?_ | refine Wp.tif ?_ | refine Wp.tchain ?_
    | refine Wp.cb ?_ | refine Wp.call ?_ | refine Wp.cons ?_ | refine Wp.nil ?_ | refine Wp.gsub ?_ | refine Wp.cst ?_ | refine Wp.i0 ?_ | refine Wp.int1 ?_ | refine Wp.eb ?_ | refine Wp.ei ?_
    | refine Wp.gnil ?_ | refine Wp.gcons ?_ | refine Wp.mko ?_ | refine Wp.bm ?_ | refine Wp.ienum ?_ | refine Wp.tru ?_ | refine Wp.u1 ?_ | refine Wp.for_ ?_ | refine Wp.lc ?_ | refine Wp.istr ?_ | refine Wp.ilist ?_ | refine Wp.itup ?_ | refine Wp.irng1 ?_ | refine Wp.irng2 ?_ | refine Wp.yes ?_ | refine Wp.es ?_ | refine Wp.er ?_ | refine Wp.sl ?_ | refine Wp.nopart ?_ | refine Wp.part ?_ | refine Wp.lst ?_ | refine Wp.tup ?_
    | refine Wp.din ?_ | refine Wp.dnotin ?_ | refine Wp.dget ?_ | refine Wp.dget2 ?_ | refine Wp.dput ?_ | refine Wp.dnewK ?_ | refine Wp.dnewT ?_ | refine Wp.bm0 ?_ | refine Wp.m1 ?_ | refine Wp.exs ?_ | refine Wp.is0 ?_ | refine Wp.isnot0 ?_ | refine Wp.fld ?_ | refine Wp.sfld ?_
    | refine Wp.par ?_ | refine Wp.parV ?_ | refine Wp.brk ?_ | refine Wp.aug ?_ | refine Wp.ipaI ?_ | refine Wp.ipsI ?_ | refine Bk.ienumS ?_ | refine Wp.make_ ?_ | refine Wp.itnn ?_ | refine Wp.ltI ?_ | refine Wp.leI ?_ | refine Wp.leS ?_ | refine Wp.inSg ?_ | refine Wp.gtI ?_ | refine Wp.geI ?_ | refine Wp.eqI ?_ | refine Wp.neI ?_ | refine Wp.addI ?_ | refine Wp.ltS ?_ | refine Wp.eqS ?_ | refine Wp.neS ?_)
  | ((with_reducible refine' Wp.var ?hv ?_); (case hv => exact rfl))
  | ((with_reducible refine' Wp.ixl ?hs ?he ?_); (case hs => first | exact SqL.of upd_same | exact SqL.of (by assumption) | assumption); (case he => exact rfl))
  | ((with_reducible refine' Wp.setl ?hs ?he ?_); (case hs => first | exact upd_same | assumption); (case he => exact rfl))
  | ((with_reducible refine' Wp.modP ?hs ?_); (case hs => first | decide | omega))
  | ((with_reducible refine' Wp.divN ?hs ?ht ?_); (case hs => first | decide | omega); (case ht => first | decide | omega))
  | ((with_reducible refine' Wp.mulM ?hs ?ht ?_); (case hs => decide); (case ht => decide))
  | ((with_reducible refine' Wp.mulL ?hs ?_); (case hs => omega))
  | ((with_reducible refine' Wp.mulR ?hs ?_); (case hs => omega))
  | ((with_reducible refine' Wp.powS ?hs ?_); (case hs => decide))
  | ((with_reducible refine' Wp.shr ?hs ?_); (case hs => decide))
  | ((with_reducible refine' Wp.szl ?hs ?_); (case hs => first | decide | (simp; done)))
  | ((with_reducible refine' Wp.lenL ?hs ?_); (case hs => first | exact SqL.of upd_same | exact SqL.of (by assumption) | assumption))
  | ((with_reducible refine' Wp.lenT ?hs ?_); (case hs => first | exact SqT.of upd_same | exact SqT.of (by assumption) | assumption))
  | ((with_reducible refine' Wp.iteC ?hs ?_); (case hs => exact rfl)) | ((with_reducible refine' Wp.iteD ?hs ?_); (case hs => exact Bool.false_ne_true))
  | ((with_reducible refine' Wp.wp ?hs ?_); (case hs => rfl))
  | (with_reducible first | refine Wp.abs ?_ | refine Wp.max2 ?_ | refine Wp.min2 ?_)
  | ((with_reducible refine' Wp.sll ?hs ?_); (case hs => first | exact SqL.of upd_same | exact SqL.of (by assumption) | assumption)))
local macro_rules | `(tactic| walk_at "KQ") => `(tactic| first
  | exact Wp.kq "int" rfl (by decide +kernel) | exact Wp.kq "bool" rfl (by decide +kernel) | exact Wp.kq "str" rfl (by decide +kernel) | exact Wp.kq "list" rfl (by decide +kernel)
  | exact Wp.kq "tuple" rfl (by decide +kernel) | exact Wp.kq "NoneType" rfl (by decide +kernel) | exact Wp.kq "dict" rfl (by decide +kernel))

section
variable {P : Program} {w : World} {K : PySem.W.Frag} {mg : Str → Option Value} {base : Heap}
def spWhole (K : PySem.W.Frag) : Sp := fun vs H Q _ => ∃ v d, vs = [v] ∧ Dp K H v d ∧ Q (.bl (Wp.isWhole d)) H
def spRow (K : PySem.W.Frag) : Sp := fun vs H Q _ => ∃ v d, vs = [v] ∧ Dp K H v d ∧ ∀ H', Same H H' → Q (.bl (Wp.row d).isSome) H'
theorem ok_row (B : Wp.Blt mg) {f : Addr} {fd : FuncData} (F : Fun K "is_row" "is_row" s_is_row f fd) : FnOk P w K mg base CX0 1 f fd ["thing"] (spRow K) := by
  refine F.ok sc_is_row (fun vs H Q E h => ?_) (fun cdv A outer s H vs Q E hr h => ?_)
  · obtain ⟨v, d, rfl, _⟩ := h
    rfl
  · obtain ⟨v, d, rfl, hd, q⟩ := h
    refine ⟨_, (pss_one (ps_ret (pe_callB (wc_isi (K := K)) (by rfl) B.isinstance (by decide +kernel) (pa_cons (pv 0) (pa_cons (pe_tup (pa_cons (pe_bltn (v := .ty "list") (by rfl) B.list (by decide +kernel) rfl) (pa_cons (pe_bltn (v := .ty "tuple") (by rfl) B.tuple (by decide +kernel) rfl) pa_nil))) pa_nil))))), ?_⟩
    refine Wp.st (σ' := [some v]) rfl ?_
    repeat walk_at "W"
    intro p hp
    have sm := Wp.same_upd (p := p) (o := .tup [.ty "list", .ty "tuple"]) hp
    have hd' := Wp.dp_same sm d v hd
    repeat walk_at "W"
    cases d with
    | list xs => exact Wp.isi2 (b := true) (c := false) hd' upd_same (by walk_at "KQ") (by walk_at "KQ") (q _ sm)
    | tuple xs => exact Wp.isi2 (b := false) (c := true) hd' upd_same (by walk_at "KQ") (by walk_at "KQ") (q _ sm)
    | _ => exact Wp.isi2 (b := false) (c := false) hd' upd_same (by walk_at "KQ") (by walk_at "KQ") (q _ sm)
def spBetween (K : PySem.W.Frag) : Sp := fun vs H Q _ => ∃ v d lo hi, vs = [v, .int lo, .int hi] ∧ Dp K H v d ∧ Q (.bl (Wp.between lo hi d)) H
def spText (K : PySem.W.Frag) : Sp := fun vs H Q _ => ∃ sg v d n, vs = [.str sg, v, .int n] ∧ Dp K H v d ∧ 0 ≤ n ∧ n ≤ 1000 ∧ (∀ z, d = .str z → z.length ≤ 16777216) ∧ ∀ H', Same H H' → Q (.bl (Wp.isText sg n d)) H'
theorem ok_text (B : Wp.Blt mg) {f : Addr} {fd : FuncData} (F : Fun K "is_text" "is_text" s_is_text f fd) : FnOk P w K mg base CX0 1 f fd ["signs", "thing", "most"] (spText K) := by
  refine F.ok sc_is_text (fun vs H Q E h => ?_) (fun cdv A outer s H vs Q E hr h => ?_)
  · obtain ⟨sg, v, d, n, rfl, _⟩ := h
    rfl
  · obtain ⟨sg, v, d, n, rfl, hd, hn0, hn1, hz, q⟩ := h
    refine ⟨_, (pss_cons (ps_if (PW.pt (pw_or (pt_not (pt_val (pe_callB (wc_isi (K := K)) (by rfl) B.isinstance (by decide +kernel) (pa_cons (pv 1) (pa_cons (pe_bltn (v := .ty "str") (by rfl) B.str (by decide +kernel) rfl) pa_nil))))) (pw_or1 (pt_cmpR wo_gt (pe_callB (Wp.wc_len (K := K)) (by rfl) B.len (by decide +kernel) (pa_cons (pv 1) pa_nil)) (pv 2) (nomark _))))) (pss_one (ps_ret pe_bl)) pss_nil)
  (pss_one (ps_ret (pe_callB (Wp.wc_all (K := K) rfl) (by rfl) B.all (by decide +kernel) (pa_cons (pe_lc (own := [("sign", 3)]) (g := gName 3) (by rfl) sc_is_text.nd (pi_str (pv 1)) (blkOk_by (own := [("sign", 3)]) (N := N_is_text) (sc := defScope s_is_text) (by decide +kernel)) (fun _ _ _ _ _ => pg_name (i := 3) sc_is_text.nd rfl (Or.inl rfl)) (fun _ _ _ _ _ => pts_nil) (fun _ _ _ _ _ => (pe_cmpR (wo_in (K := K) (u65 hr)) (pv 3) (pv 0) (by rfl)))) pa_nil))))), ?_⟩
    refine Wp.st (σ' := [some (.str sg), some v, some (.int n), none]) rfl ?_
    repeat walk_at "W"
    cases d with
    | str z =>
      cases hd
      refine Wp.isi1 (b := true) (.str z) (by walk_at "KQ") ?_
      repeat walk_at "W"
      repeat walk_at "W"
      refine Wp.lenS (hz z rfl) ?_
      repeat walk_at "W"
      refine Wp.itd (fun h0 => ?_) (fun h0 => ?_)
      · repeat walk_at "W"
        have e : Wp.isText sg n (.str z) = false := by
          show (decide ((z.length : Int) ≤ n) && _) = false
          rw [decide_eq_false (by omega)]; rfl
        rw [e] at q
        exact q _ (Same.refl _)
      · repeat walk_at "W"
        have e : Wp.isText sg n (.str z) = z.cps.toList.all fun c => decide (c ∈ sg.cps.toList) := by
          show (decide ((z.length : Int) ≤ n) && _) = _
          rw [decide_eq_true (by omega)]; rfl
        rw [e] at q
        intro A hA
        have sm := Wp.same_upd (p := A) (o := .lst []) hA
        refine Wp.lcIt walk_str (fun i H1 => Same H H1 ∧ H1 A = some (.lst (((z.cps.toList.take i).map fun c => decide (c ∈ sg.cps.toList)).map V.bl))) ⟨sm, upd_same⟩ (fun _ _ _ _ => trivial) ?_ ?_
        · rintro i x H1 H' hi ⟨s1, hl⟩ ⟨rfl, c, hc, rfl⟩
          repeat walk_at "W"
          repeat walk_at "W"
          refine ⟨_, hl, ?_, fun b o hb => ?_, ?_⟩
          · rw [List.length_map, List.length_map, List.length_take]
            have : z.length = z.cps.size := rfl
            have : z.length ≤ 1000 := by omega
            refine small1000 ?_
            omega
          · rw [upd_ne (ne_of_none hb hA)]
            exact s1 _ _ hb
          · rw [upd_same]
            have hc' : z.cps.toList[i]? = some c := by rw [Array.getElem?_toList]; exact hc
            rw [List.take_add_one, hc', List.map_append, List.map_append]
            rfl
        · rintro H1 ⟨s1, hl⟩
          have ez : z.cps.toList.take z.cps.size = z.cps.toList := List.take_of_length_le (by simp)
          rw [ez] at hl
          repeat walk_at "W"
          refine Wp.allL (SqL.of hl) ?_
          rw [List.all_map]
          exact q _ s1
    | _ =>
      refine Wp.isi1 (b := false) hd (by walk_at "KQ") ?_
      repeat walk_at "W"
      repeat walk_at "W"
      exact q _ (Same.refl _)
end
end K09
set_option Elab.async false
set_option linter.all false
set_option maxRecDepth 100000
namespace K09
open PySem PySem.Spec PyProof.Rows L2
open Wp (wo_lt wo_le wo_gt wo_ge wo_eq wo_ne wo_in wo_nin wo_add wo_mul op_shlB ws_any wc_int wc_isi u65)
abbrev s_initT : Stmt := inClass (topS 3) 0
abbrev s_initI : Stmt := inClass (topS 7) 0
theorem sc_initT : FnScope ["self", "thing"] ["self", "thing"] (defScope s_initT) := ⟨rfl, rfl, rfl, by decide +kernel, rfl, by decide +kernel, by decide +kernel⟩
theorem sc_initI : FnScope ["self", "place"] ["self", "place"] (defScope s_initI) := ⟨rfl, rfl, rfl, by decide +kernel, rfl, by decide +kernel, by decide +kernel⟩
abbrev s_checked_signs : Stmt := topS 26
abbrev N_checked_signs : List Str := ["thing", "before", "sign"]
theorem sc_checked_signs : FnScope N_checked_signs ["thing"] (defScope s_checked_signs) := ⟨rfl, rfl, rfl, by decide +kernel, rfl, by decide +kernel, by decide +kernel⟩
local macro_rules | `(tactic| walk_at "W") => `(tactic| first
  | (with_reducible first
    | refine Wp.seq ?_ | refine Wp.asg ?_ | refine Wp.ret ?_ | refine Wp.retN ?_ | refine Wp.drop ?_ | refine Wp.nxt ?_ | refine Wp.ifs ?_ | refine Wp.gname ?_
    | refine Wp.op ?_ | refine Wp.un ?_ | refine Wp.tst ?_ | refine Wp.tb' ?_ | refine Wp.tnot ?_ | refine Wp.tand ?_ | refine Wp.tor ?_ | refine Wp.tandV ?_ | refine Wp.torV ?_ | refine Wp.tnotV ?_ | refine Wp.tif ?_ | refine Wp.tchain ?_
    | refine Wp.cb ?_ | refine Wp.call ?_ | refine Wp.cons ?_ | refine Wp.nil ?_ | refine Wp.gsub ?_ | refine Wp.cst ?_ | refine Wp.i0 ?_ | refine Wp.int1 ?_ | refine Wp.eb ?_ | refine Wp.ei ?_
    | refine Wp.gnil ?_ | refine Wp.gcons ?_ | refine Wp.mko ?_ | refine Wp.bm ?_ | refine Wp.ienum ?_ | refine Wp.tru ?_ | refine Wp.u1 ?_ | refine Wp.for_ ?_ | refine Wp.lc ?_ | refine Wp.istr ?_ | refine Wp.ilist ?_ | refine Wp.itup ?_ | refine Wp.irng1 ?_ | refine Wp.irng2 ?_ | refine Wp.yes ?_ | refine Wp.es ?_ | refine Wp.er ?_ | refine Wp.sl ?_ | refine Wp.nopart ?_ | refine Wp.part ?_ | refine Wp.lst ?_ | refine Wp.tup ?_
    | refine Wp.din ?_ | refine Wp.dnotin ?_ | refine Wp.dget ?_ | refine Wp.dget2 ?_ | refine Wp.dput ?_ | refine Wp.dnewK ?_ | refine Wp.dnewT ?_ | refine Wp.bm0 ?_ | refine Wp.m1 ?_ | refine Wp.exs ?_ | refine Wp.is0 ?_ | refine Wp.isnot0 ?_ | refine Wp.fld ?_ | refine Wp.sfld ?_
    | refine Wp.par ?_ | refine Wp.parV ?_ | refine Wp.brk ?_ | refine Wp.aug ?_ | refine Wp.ipaI ?_ | refine Wp.ipsI ?_ | refine Bk.ienumS ?_ | refine Wp.make_ ?_ | refine Wp.itnn ?_ | refine Wp.ltI ?_ | refine Wp.leI ?_ | refine Wp.leS ?_ | refine Wp.inSg ?_ | refine Wp.gtI ?_ | refine Wp.geI ?_ | refine Wp.eqI ?_ | refine Wp.neI ?_ | refine Wp.addI ?_ | refine Wp.ltS ?_ | refine Wp.eqS ?_ | refine Wp.neS ?_)
  | ((with_reducible refine' Wp.var ?hv ?_); (case hv => exact rfl))
  | ((with_reducible refine' Wp.ixl ?hs ?he ?_); (case hs => first | exact SqL.of upd_same | exact SqL.of (by assumption) | assumption); (case he => exact rfl))
  | ((with_reducible refine' Wp.setl ?hs ?he ?_); (case hs => first | exact upd_same | assumption); (case he => exact rfl))
  | ((with_reducible refine' Wp.modP ?hs ?_); (case hs => first | decide | omega))
  | ((with_reducible refine' Wp.divN ?hs ?ht ?_); (case hs => first | decide | omega); (case ht => first | decide | omega))
  | ((with_reducible refine' Wp.mulM ?hs ?ht ?_); (case hs => decide); (case ht => decide))
  | ((with_reducible refine' Wp.mulL ?hs ?_); (case hs => omega))
  | ((with_reducible refine' Wp.mulR ?hs ?_); (case hs => omega))
  | ((with_reducible refine' Wp.powS ?hs ?_); (case hs => decide))
  | ((with_reducible refine' Wp.shr ?hs ?_); (case hs => decide))
  | ((with_reducible refine' Wp.szl ?hs ?_); (case hs => first | decide | (simp; done)))
  | ((with_reducible refine' Wp.lenL ?hs ?_); (case hs => first | exact SqL.of upd_same | exact SqL.of (by assumption) | assumption))
  | ((with_reducible refine' Wp.lenT ?hs ?_); (case hs => first | exact SqT.of upd_same | exact SqT.of (by assumption) | assumption))
  | ((with_reducible refine' Wp.iteC ?hs ?_); (case hs => exact rfl)) | ((with_reducible refine' Wp.iteD ?hs ?_); (case hs => exact Bool.false_ne_true))
  | ((with_reducible refine' Wp.wp ?hs ?_); (case hs => rfl))
  | (with_reducible first | refine Wp.abs ?_ | refine Wp.max2 ?_ | refine Wp.min2 ?_)
  | ((with_reducible refine' Wp.sll ?hs ?_); (case hs => first | exact SqL.of upd_same | exact SqL.of (by assumption) | assumption)))
local macro_rules | `(tactic| walk_at "KQ") => `(tactic| first
  | exact Wp.kq "int" rfl (by decide +kernel) | exact Wp.kq "bool" rfl (by decide +kernel) | exact Wp.kq "str" rfl (by decide +kernel) | exact Wp.kq "list" rfl (by decide +kernel)
  | exact Wp.kq "tuple" rfl (by decide +kernel) | exact Wp.kq "NoneType" rfl (by decide +kernel) | exact Wp.kq "dict" rfl (by decide +kernel))

section
variable {P : Program} {w : World} {K : PySem.W.Frag} {mg : Str → Option Value} {base : Heap}
theorem ok_initT {f : Addr} {fd : FuncData} (F : Fun K "__init__" "WrongThing.__init__" s_initT f fd) : FnOk P w K mg base CX0 1 f fd ["self", "thing"] (Wp.spInit K "thing") := by
  refine F.ok sc_initT (fun vs H Q E h => ?_) (fun cdv A outer s H vs Q E hr h => ?_)
  · obtain ⟨a, C, y, rfl, _⟩ := h
    rfl
  · obtain ⟨a, C, y, rfl, hO, hno, ha, q⟩ := h
    refine ⟨_, pss_one (ps_ost (pv 0) (pv 1)), ?_⟩
    exact ⟨y, rfl, .ref a, rfl, a, C, rfl, hO, hno, .inl ⟨ha, fun dx hdx hne => q dx hdx hne⟩⟩
theorem ok_initI {f : Addr} {fd : FuncData} (F : Fun K "__init__" "WrongItem.__init__" s_initI f fd) : FnOk P w K mg base CX0 1 f fd ["self", "place"] (Wp.spInit K "place") := by
  refine F.ok sc_initI (fun vs H Q E h => ?_) (fun cdv A outer s H vs Q E hr h => ?_)
  · obtain ⟨a, C, y, rfl, _⟩ := h
    rfl
  · obtain ⟨a, C, y, rfl, hO, hno, ha, q⟩ := h
    refine ⟨_, pss_one (ps_ost (pv 0) (pv 1)), ?_⟩
    exact ⟨y, rfl, .ref a, rfl, a, C, rfl, hO, hno, .inl ⟨ha, fun dx hdx hne => q dx hdx hne⟩⟩
def leS (i j : Str) : Bool := !decide (j.cps.toList < i.cps.toList)
def badSign (b : Str) (c : Nat) : Bool := !(leS "a" ⟨#[c]⟩ && leS ⟨#[c]⟩ "z") || leS ⟨#[c]⟩ b
def sgOk : Str → List Nat → Bool
  | _, [] => true
  | b, c :: r => !badSign b c && sgOk ⟨#[c]⟩ r
def goodSigns : PyData → Bool
  | .str z => (decide (1 ≤ (z.length : Int)) && decide ((z.length : Int) ≤ 8)) && sgOk "" z.cps.toList
  | _ => false
def spSigned (K : PySem.W.Frag) (C : Addr) : Sp := fun vs H Q E => ∃ v d, vs = [v] ∧ Dp K H v d ∧ (∀ z, d = .str z → z.length ≤ 16777216) ∧ (goodSigns d = true → Q v H) ∧
  (goodSigns d = false → ∀ dd H', H dd = none → Same H H' → H' dd = some (.xd [("thing", v)]) → E (.ref C) (some dd) H')
theorem ok_signed (B : Wp.Blt mg) {f C fI : Addr} {fd fdI : FuncData} (F : Fun K "checked_signs" "checked_signs" s_checked_signs f fd) (T_BadSigns : Wp.ExT K mg "BadSigns" C fI "thing") (c_MOST_SIGNS : ∃ t, mg "MOST_SIGNS" = some (.int 8 t))
    (G_BadSigns : FnOk P w K mg base CX0 1 fI fdI ["self", "thing"] (Wp.spInit K "thing")) (b_BadSigns : Binds K fdI ["self", "thing"] []) : FnOk P w K mg base (L2.CX P w) 3 f fd ["thing"] (spSigned K C) := by
  obtain ⟨tk, c_MOST_SIGNS⟩ := c_MOST_SIGNS
  refine F.okX sc_checked_signs (fun vs H Q E h => ?_) (fun cdv A outer s H vs Q E hr h => ?_)
  · obtain ⟨v, d, rfl, _⟩ := h
    rfl
  · obtain ⟨v, d, rfl, hd, hz, qr, qe⟩ := h
    refine ⟨_, (pss_cons (ps_if (PW.pt (pw_or (pt_not (pt_val (pe_callB (wc_isi (K := K)) (by rfl) B.isinstance (by decide +kernel) (pa_cons (pv 0) (pa_cons (pe_bltn (v := .ty "str") (by rfl) B.str (by decide +kernel) rfl) pa_nil))))) (pw_or1 (pt_not (pt_chain (wo_le (K := K) hr.units) (wo_le (K := K) hr.units) pe_int (pe_callB (Wp.wc_len (K := K)) (by rfl) B.len (by decide +kernel) (pa_cons (pv 0) pa_nil)) (pe_glob (v := .int 8) (by rfl) c_MOST_SIGNS ⟨_, rfl⟩)))))) (pss_one (ps_raise rfl (takes_of rfl rfl rfl rfl) (pmk_oex T_BadSigns.O T_BadSigns.iC T_BadSigns.tI G_BadSigns (hr.mono (by decide)) b_BadSigns .nil pass0 (by rfl) T_BadSigns.g (pa_cons (pv 0) pa_nil)))) pss_nil)
  (pss_cons (ps_set (i := 1) sc_checked_signs.nd rfl (by first | exact .inl rfl | exact .inr rfl) pe_str)
  (pss_cons (ps_for (passes_of rfl) rfl (pi_str (pv 0)) (pg_name (i := 2) sc_checked_signs.nd rfl (by first | exact .inl rfl | exact .inr rfl)) (pss_cons (ps_if (PW.pt (pw_or (pt_not (pt_chain (wo_le (K := K) hr.units) (wo_le (K := K) hr.units) pe_str (pv 2) pe_str)) (pw_or1 (pt_cmpR (wo_le (K := K) hr.units) (pv 2) (pv 1) (nomark _))))) (pss_one (ps_raise rfl (takes_of rfl rfl rfl rfl) (pmk_oex T_BadSigns.O T_BadSigns.iC T_BadSigns.tI G_BadSigns (hr.mono (by decide)) b_BadSigns .nil pass0 (by rfl) T_BadSigns.g (pa_cons (pv 0) pa_nil)))) pss_nil)
  (pss_one (ps_set (i := 1) sc_checked_signs.nd rfl (by first | exact .inl rfl | exact .inr rfl) (pv 2)))))
  (pss_one (ps_ret (pv 0)))))), ?_⟩
    refine Wp.st (σ' := [some v, none, none]) rfl ?_
    repeat walk_at "W"
    have bad : goodSigns d = false → Wp.MkI C (Wp.spInit K "thing") [] (fun cls d H' => E cls d H') [v] H := fun hb => Wp.mki T_BadSigns (qe hb)
    cases d with
    | str z =>
      cases hd
      refine Wp.isi1 (b := true) (.str z) (by walk_at "KQ") ?_
      repeat walk_at "W"
      refine Wp.lenS (hz z rfl) ?_
      repeat walk_at "W"
      refine Wp.itd (fun h1 => ?_) (fun h1 => ?_)
      rotate_left
      · repeat walk_at "W"
        refine bad ?_
        show ((decide (1 ≤ (z.length : Int)) && _) && _) = false
        rw [decide_eq_false h1]; rfl
      · repeat walk_at "W"
        refine Wp.itnb (fun h2 => ?_) (fun h2 => ?_)
        · repeat walk_at "W"
          refine bad ?_
          show ((_ && decide ((z.length : Int) ≤ 8)) && _) = false
          rw [h2, Bool.and_false]; rfl
        · repeat walk_at "W"
          have hg : goodSigns (.str z) = sgOk "" z.cps.toList := by
            show ((decide (1 ≤ (z.length : Int)) && decide ((z.length : Int) ≤ 8)) && _) = _
            rw [decide_eq_true h1, h2]; rfl
          refine Wp.forIt walk_str (fun i σ1 H1 => ∃ (b : Str) (x : Option V), σ1 = [some (.str z), some (.str b), x] ∧ H1 = H ∧ sgOk "" z.cps.toList = sgOk b (z.cps.toList.drop i)) ⟨_, _, rfl, rfl, rfl⟩ (fun _ _ _ _ _ => trivial) ?_ ?_
          · rintro i x σ1 H1 H' hi ⟨b, x0, rfl, rfl, he⟩ ⟨rfl, c, hc, rfl⟩
            have hc' : z.cps.toList[i]? = some c := by rw [Array.getElem?_toList]; exact hc
            have hd1 : z.cps.toList.drop i = c :: z.cps.toList.drop (i + 1) := by
              obtain ⟨hl, hx⟩ := List.getElem?_eq_some_iff.mp hc'
              rw [List.drop_eq_getElem_cons hl, hx]
            rw [hd1] at he
            have isbad : badSign b c = true → goodSigns (.str z) = false := fun hb => by
              rw [hg, he]
              show (!badSign b c && _) = false
              rw [hb]; rfl
            repeat walk_at "W"
            refine Wp.itb (fun e1 => ?_) (fun e1 => ?_)
            · repeat walk_at "W"
              refine Wp.itnb (fun e2 => ?_) (fun e2 => ?_)
              · repeat walk_at "W"
                refine bad (isbad ?_)
                show (!(leS "a" ⟨#[c]⟩ && leS ⟨#[c]⟩ "z") || _) = true
                rw [show leS ⟨#[c]⟩ "z" = false from e2, Bool.and_false]; rfl
              · repeat walk_at "W"
                refine Wp.itb (fun e3 => ?_) (fun e3 => ?_)
                · repeat walk_at "W"
                  refine bad (isbad ?_)
                  show (_ || leS ⟨#[c]⟩ b) = true
                  rw [show leS ⟨#[c]⟩ b = true from e3, Bool.or_true]
                · repeat walk_at "W"
                  refine ⟨_, _, rfl, rfl, he.trans ?_⟩
                  show (!(!(leS "a" ⟨#[c]⟩ && leS ⟨#[c]⟩ "z") || leS ⟨#[c]⟩ b) && _) = _
                  rw [show leS "a" ⟨#[c]⟩ = true from e1, show leS ⟨#[c]⟩ "z" = true from e2, show leS ⟨#[c]⟩ b = false from e3]; rfl
            · repeat walk_at "W"
              refine bad (isbad ?_)
              show (!(leS "a" ⟨#[c]⟩ && leS ⟨#[c]⟩ "z") || _) = true
              rw [show leS "a" ⟨#[c]⟩ = false from e1]; rfl
          · rintro σ1 H1 ⟨b, x0, rfl, rfl, he⟩
            repeat walk_at "W"
            refine qr ?_
            rw [hg, he, List.drop_of_length_le (by simp)]
            rfl
    | _ =>
      refine Wp.isi1 (b := false) hd (by walk_at "KQ") ?_
      repeat walk_at "W"
      exact bad rfl
end
end K09
set_option Elab.async false
set_option linter.all false
set_option maxRecDepth 100000
set_option maxHeartbeats 8000000
namespace K09
open PySem PySem.Spec PyProof.Rows L2 Bk
open Wp (wo_lt wo_le wo_gt wo_ge wo_eq wo_ne wo_in wo_nin wo_add wo_mul op_shlB ws_any wc_int wc_isi u65)
abbrev s_checked_text : Stmt := topS 27
abbrev N_checked_text : List Str := ["signs", "thing"]
abbrev s_is_rule : Stmt := topS 33
abbrev N_is_rule : List Str := ["signs", "thing", "left", "right"]
theorem sc_is_rule : FnScope N_is_rule ["signs", "thing"] (defScope s_is_rule) := ⟨rfl, rfl, rfl, by decide +kernel, rfl, by decide +kernel, by decide +kernel⟩
abbrev s_rules_of : Stmt := topS 34
abbrev N_rules_of : List Str := ["signs", "things", "seen", "place", "thing"]
theorem sc_rules_of : FnScope N_rules_of ["signs", "things"] (defScope s_rules_of) := ⟨rfl, rfl, rfl, by decide +kernel, rfl, by decide +kernel, by decide +kernel⟩
local macro_rules | `(tactic| walk_at "W") => `(tactic| first
  | (with_reducible first
    | refine Wp.seq ?_ | refine Wp.asg ?_ | refine Wp.ret ?_ | refine Wp.retN ?_ | refine Wp.drop ?_ | refine Wp.nxt ?_ | refine Wp.ifs ?_ | refine Wp.gname ?_
    | refine Wp.op ?_ | refine Wp.un ?_ | refine Wp.tst ?_ | refine Wp.tb' ?_ | refine Wp.tnot ?_ | refine Wp.tand ?_ | refine Wp.tor ?_ | refine Wp.tandV ?_ | refine Wp.torV ?_ | refine Wp.tnotV ?_ | refine Wp.tif ?_ | refine Wp.tchain ?_
    | refine Wp.cb ?_ | refine Wp.call ?_ | refine Wp.cons ?_ | refine Wp.nil ?_ | refine Wp.gsub ?_ | refine Wp.cst ?_ | refine Wp.i0 ?_ | refine Wp.int1 ?_ | refine Wp.eb ?_ | refine Wp.ei ?_
    | refine Wp.gnil ?_ | refine Wp.gcons ?_ | refine Wp.mko ?_ | refine Wp.bm ?_ | refine Wp.ienum ?_ | refine Wp.tru ?_ | refine Wp.u1 ?_ | refine Wp.for_ ?_ | refine Wp.lc ?_ | refine Wp.istr ?_ | refine Wp.ilist ?_ | refine Wp.itup ?_ | refine Wp.irng1 ?_ | refine Wp.irng2 ?_ | refine Wp.yes ?_ | refine Wp.es ?_ | refine Wp.er ?_ | refine Wp.sl ?_ | refine Wp.nopart ?_ | refine Wp.part ?_ | refine Wp.lst ?_ | refine Wp.tup ?_
    | refine Wp.din ?_ | refine Wp.dnotin ?_ | refine Wp.dget ?_ | refine Wp.dget2 ?_ | refine Wp.dput ?_ | refine Wp.dnewK ?_ | refine Wp.dnewT ?_ | refine Wp.bm0 ?_ | refine Wp.m1 ?_ | refine Wp.exs ?_ | refine Wp.is0 ?_ | refine Wp.isnot0 ?_ | refine Wp.fld ?_ | refine Wp.sfld ?_
    | refine Wp.par ?_ | refine Wp.parV ?_ | refine Wp.brk ?_ | refine Wp.aug ?_ | refine Wp.ipaI ?_ | refine Wp.ipsI ?_ | refine Bk.ienumS ?_ | refine Wp.make_ ?_ | refine Wp.itnn ?_ | refine Wp.ltI ?_ | refine Wp.leI ?_ | refine Wp.leS ?_ | refine Wp.inSg ?_ | refine Wp.gtI ?_ | refine Wp.geI ?_ | refine Wp.eqI ?_ | refine Wp.neI ?_ | refine Wp.addI ?_ | refine Wp.ltS ?_ | refine Wp.eqS ?_ | refine Wp.neS ?_)
  | ((with_reducible refine' Wp.var ?hv ?_); (case hv => exact rfl))
  | ((with_reducible refine' Wp.ixl ?hs ?he ?_); (case hs => first | exact SqL.of upd_same | exact SqL.of (by assumption) | assumption); (case he => exact rfl))
  | ((with_reducible refine' Wp.setl ?hs ?he ?_); (case hs => first | exact upd_same | assumption); (case he => exact rfl))
  | ((with_reducible refine' Wp.modP ?hs ?_); (case hs => first | decide | omega))
  | ((with_reducible refine' Wp.divN ?hs ?ht ?_); (case hs => first | decide | omega); (case ht => first | decide | omega))
  | ((with_reducible refine' Wp.mulM ?hs ?ht ?_); (case hs => decide); (case ht => decide))
  | ((with_reducible refine' Wp.mulL ?hs ?_); (case hs => omega))
  | ((with_reducible refine' Wp.mulR ?hs ?_); (case hs => omega))
  | ((with_reducible refine' Wp.powS ?hs ?_); (case hs => decide))
  | ((with_reducible refine' Wp.shr ?hs ?_); (case hs => decide))
  | ((with_reducible refine' Wp.szl ?hs ?_); (case hs => first | decide | (simp; done)))
  | ((with_reducible refine' Wp.lenL ?hs ?_); (case hs => first | exact SqL.of upd_same | exact SqL.of (by assumption) | assumption))
  | ((with_reducible refine' Wp.lenT ?hs ?_); (case hs => first | exact SqT.of upd_same | exact SqT.of (by assumption) | assumption))
  | ((with_reducible refine' Wp.iteC ?hs ?_); (case hs => exact rfl)) | ((with_reducible refine' Wp.iteD ?hs ?_); (case hs => exact Bool.false_ne_true))
  | ((with_reducible refine' Wp.wp ?hs ?_); (case hs => rfl))
  | (with_reducible first | refine Wp.abs ?_ | refine Wp.max2 ?_ | refine Wp.min2 ?_)
  | ((with_reducible refine' Wp.sll ?hs ?_); (case hs => first | exact SqL.of upd_same | exact SqL.of (by assumption) | assumption)))
local macro_rules | `(tactic| walk_at "KQ") => `(tactic| first
  | exact Wp.kq "int" rfl (by decide +kernel) | exact Wp.kq "bool" rfl (by decide +kernel) | exact Wp.kq "str" rfl (by decide +kernel) | exact Wp.kq "list" rfl (by decide +kernel)
  | exact Wp.kq "tuple" rfl (by decide +kernel) | exact Wp.kq "NoneType" rfl (by decide +kernel) | exact Wp.kq "dict" rfl (by decide +kernel))

def strLen : PyData → Int
  | .str z => z.length
  | _ => 0
def isRule (sg : Str) (d : PyData) : Bool := match Wp.row d with
  | some [a, b] => (Wp.isText sg 4 a && Wp.isText sg 1 b) && decide (strLen b < strLen a)
  | _ => false
def ruleOf (d : PyData) : Option (Str × Str) := match Wp.row d with
  | some [.str l, .str r] => some (l, r)
  | _ => none
theorem isText_str {sg : Str} {n : Int} {d : PyData} (h : Wp.isText sg n d = true) : ∃ z, d = .str z := by
  cases d with
  | str z => exact ⟨z, rfl⟩
  | _ => cases h
theorem two {α : Type} : ∀ {ys : List α}, ys.length = 2 → ∃ a b, ys = [a, b]
  | [a, b], _ => ⟨a, b, rfl⟩
  | [], h => by cases h
  | [_], h => by cases h
  | _ :: _ :: _ :: _, h => by simp at h
theorem isText_iff {sg z : Str} {n : Int} : Wp.isText sg n (.str z) = true ↔ (z.length : Int) ≤ n ∧ ∀ c ∈ z.cps.toList, c ∈ sg.cps.toList := by
  show (decide ((z.length : Int) ≤ n) && z.cps.toList.all fun c => decide (c ∈ sg.cps.toList)) = true ↔ _
  rw [Bool.and_eq_true, decide_eq_true_iff, List.all_eq_true]
  exact ⟨fun h => ⟨h.1, fun c hc => of_decide_eq_true (h.2 c hc)⟩, fun h => ⟨h.1, fun c hc => decide_eq_true (h.2 c hc)⟩⟩
theorem isRule_of {sg : Str} {d : PyData} (h : isRule sg d = true) : ∃ l r, ruleOf d = some (l, r) ∧ Wp.row d = some [.str l, .str r] ∧ RuleOk sg l r := by
  unfold isRule at h
  split at h
  · rename_i a b e
    rw [Bool.and_eq_true, Bool.and_eq_true] at h
    obtain ⟨⟨h1, h2⟩, h3⟩ := h
    obtain ⟨l, rfl⟩ := isText_str h1
    obtain ⟨r, rfl⟩ := isText_str h2
    obtain ⟨a1, a2⟩ := isText_iff.mp h1
    obtain ⟨b1, b2⟩ := isText_iff.mp h2
    have h4 : (r.length : Int) < l.length := of_decide_eq_true h3
    exact ⟨l, r, by unfold ruleOf; rw [e], e, by omega, by omega, by omega, a2, b2⟩
  · cases h
theorem isRule_ok {sg l r : Str} {d : PyData} (e : Wp.row d = some [.str l, .str r]) (h : RuleOk sg l r) : isRule sg d = true := by
  unfold isRule
  rw [e]
  show ((Wp.isText sg 4 (.str l) && Wp.isText sg 1 (.str r)) && decide ((r.length : Int) < l.length)) = true
  rw [isText_iff.mpr ⟨by have := h.l4; omega, h.lc⟩, isText_iff.mpr ⟨by have := h.r1; omega, h.rc⟩, decide_eq_true (by have := h.lt; omega)]; rfl
section
variable {P : Program} {w : World} {K : PySem.W.Frag} {mg : Str → Option Value} {base : Heap}
def spCText (K : PySem.W.Frag) (C : Addr) : Sp := fun vs H Q E => ∃ sg v d, vs = [.str sg, v] ∧ Dp K H v d ∧ (∀ z, d = .str z → z.length ≤ 16777216) ∧ (Wp.isText sg 200 d = true → ∀ H', Same H H' → Q v H') ∧
  (Wp.isText sg 200 d = false → ∀ dd H', H dd = none → Same H H' → H' dd = some (.xd [("thing", v)]) → E (.ref C) (some dd) H')
def spRule (K : PySem.W.Frag) : Sp := fun vs H Q _ => ∃ sg v d, vs = [.str sg, v] ∧ Dp K H v d ∧ Wp.sm d = true ∧ ∀ H', Same H H' → Q (.bl (isRule sg d)) H'
theorem ok_rule (B : Wp.Blt mg) {f fR fT : Addr} {fd fdR fdT : FuncData} (F : Fun K "is_rule" "is_rule" s_is_rule f fd) (c_LONGEST_LEFT : ∃ t, mg "LONGEST_LEFT" = some (.int 4 t)) (c_LONGEST_RIGHT : ∃ t, mg "LONGEST_RIGHT" = some (.int 1 t))
    (D_is_row : Wp.Dh K mg "is_row" fR fdR ["thing"]) (G_is_row : FnOk P w K mg base CX0 1 fR fdR ["thing"] (spRow K))
    (D_is_text : Wp.Dh K mg "is_text" fT fdT ["signs", "thing", "most"]) (G_is_text : FnOk P w K mg base CX0 1 fT fdT ["signs", "thing", "most"] (spText K)) : FnOk P w K mg base CX0 2 f fd ["signs", "thing"] (spRule K) := by
  obtain ⟨tk1, c_LONGEST_LEFT⟩ := c_LONGEST_LEFT
  obtain ⟨tk2, c_LONGEST_RIGHT⟩ := c_LONGEST_RIGHT
  refine F.ok sc_is_rule (fun vs H Q E h => ?_) (fun cdv A outer s H vs Q E hr h => ?_)
  · obtain ⟨sg, v, d, rfl, _⟩ := h
    rfl
  · obtain ⟨sg, v, d, rfl, hd, hsm, q⟩ := h
    refine ⟨_, (pss_cons (ps_if (PW.pt (pw_or (pt_not (pt_val (pe_call G_is_row (hr.mono (by decide)) (by rfl) D_is_row.g D_is_row.k D_is_row.b .nil pass0 (pa_cons (pv 1) pa_nil)))) (pw_or1 (pt_cmpR (wo_ne (K := K) hr.units) (pe_callB (Wp.wc_len (K := K)) (by rfl) B.len (by decide +kernel) (pa_cons (pv 1) pa_nil)) pe_int (nomark _))))) (pss_one (ps_ret pe_bl)) pss_nil)
  (pss_cons (ps_asg (pv 1) (Wp.wg_tup (K := K) (n := 2) rfl (pgs_cons (pg_name (i := 2) sc_is_rule.nd rfl (by first | exact .inl rfl | exact .inr rfl)) (pgs_cons (pg_name (i := 3) sc_is_rule.nd rfl (by first | exact .inl rfl | exact .inr rfl)) pgs_nil))))
  (pss_cons (ps_if (PW.pt (pw_or (pt_not (pt_val (pe_call G_is_text (hr.mono (by decide)) (by rfl) D_is_text.g D_is_text.k D_is_text.b .nil pass0 (pa_cons (pv 0) (pa_cons (pv 2) (pa_cons (pe_glob (v := .int 4) (by rfl) c_LONGEST_LEFT ⟨_, rfl⟩) pa_nil)))))) (pw_or1 (pt_not (pt_val (pe_call G_is_text (hr.mono (by decide)) (by rfl) D_is_text.g D_is_text.k D_is_text.b .nil pass0 (pa_cons (pv 0) (pa_cons (pv 3) (pa_cons (pe_glob (v := .int 1) (by rfl) c_LONGEST_RIGHT ⟨_, rfl⟩) pa_nil))))))))) (pss_one (ps_ret pe_bl)) pss_nil)
  (pss_one (ps_ret (pe_cmpR wo_lt (pe_callB (Wp.wc_len (K := K)) (by rfl) B.len (by decide +kernel) (pa_cons (pv 3) pa_nil)) (pe_callB (Wp.wc_len (K := K)) (by rfl) B.len (by decide +kernel) (pa_cons (pv 2) pa_nil)) (nomark _))))))), ?_⟩
    refine Wp.st (σ' := [some (.str sg), some v, none, none]) rfl ?_
    have no : ∀ {H'}, Same H H' → isRule sg d = false → Q (.bl false) H' := fun s1 e => by rw [← e]; exact q _ s1
    repeat walk_at "W"
    refine ⟨v, d, rfl, hd, fun H1 s1 => ?_⟩
    repeat walk_at "W"
    cases hrow : Wp.row d with
    | none =>
      repeat walk_at "W"
      exact no s1 (by unfold isRule; rw [hrow])
    | some xs =>
      obtain ⟨p, ys, rfl, hsq, hal⟩ := Wp.dp_row (Wp.dp_same s1 d _ hd) hrow
      have hsA := Wp.sm_row hsm hrow
      have hll := Wp.dps_len hal
      repeat walk_at "W"
      refine Wp.lenU hsq ?_
      repeat walk_at "W"
      refine Wp.itn (fun h3 => ?_) (fun h3 => ?_)
      · repeat walk_at "W"
        refine no s1 ?_
        unfold isRule; rw [hrow]
        match xs, hll with
        | [], _ => rfl
        | [_], _ => rfl
        | [_, _], hll => exact absurd (by rw [hll]; rfl) h3
        | _ :: _ :: _ :: _, _ => rfl
      · have h2 : ys.length = 2 := by omega
        obtain ⟨a, b, rfl⟩ := two h2
        cases hal with
        | cons d1 hal =>
        rename_i da r1
        cases hal with
        | cons d2 hal =>
        rename_i db r2
        cases hal
        simp only [Wp.smA, Bool.and_eq_true] at hsA
        repeat walk_at "W"
        refine Wp.gU hsq rfl ?_
        repeat walk_at "W"
        refine ⟨sg, a, da, 4, rfl, d1, by omega, by omega, Wp.sm_str hsA.1, fun H2 s2 => ?_⟩
        repeat walk_at "W"
        refine Wp.itnb (fun e1 => ?_) (fun e1 => ?_)
        · repeat walk_at "W"
          refine no (s1.trans s2) ?_
          unfold isRule; rw [hrow]
          show ((Wp.isText sg 4 da && _) && _) = false
          rw [e1]; rfl
        repeat walk_at "W"
        refine ⟨sg, b, db, 1, rfl, Wp.dp_same s2 _ _ d2, by omega, by omega, Wp.sm_str hsA.2.1, fun H3 s3 => ?_⟩
        repeat walk_at "W"
        refine Wp.itnb (fun e2 => ?_) (fun e2 => ?_)
        · repeat walk_at "W"
          refine no ((s1.trans s2).trans s3) ?_
          unfold isRule; rw [hrow]
          show ((_ && Wp.isText sg 1 db) && _) = false
          rw [e2, Bool.and_false]; rfl
        obtain ⟨l, rfl⟩ := isText_str e1
        obtain ⟨r, rfl⟩ := isText_str e2
        cases d1; cases d2
        repeat walk_at "W"
        have a1 := (isText_iff.mp e1).1
        have a2 := (isText_iff.mp e2).1
        refine Wp.lenS (Nat.le_of_lt (small1000 (by omega))) ?_
        repeat walk_at "W"
        refine Wp.lenS (Nat.le_of_lt (small1000 (by omega))) ?_
        repeat walk_at "W"
        have e3 : isRule sg d = decide ((r.length : Int) < l.length) := by
          unfold isRule; rw [hrow]
          show ((Wp.isText sg 4 (.str l) && Wp.isText sg 1 (.str r)) && decide ((r.length : Int) < l.length)) = _
          rw [e1, e2]; rfl
        have := q _ ((s1.trans s2).trans s3)
        rw [e3] at this
        exact this
abbrev keyR (p : Str × Str) : List Key := [Sum.inr p.1, Sum.inr p.2]
abbrev entR (p : Str × Str) : List Key × V := (keyR p, .bl true)
theorem keyR_inj {p q : Str × Str} (h : keyR p = keyR q) : p = q := by
  obtain ⟨a, b⟩ := p
  obtain ⟨c, d⟩ := q
  have h1 := (List.cons.inj h).1
  have h2 := (List.cons.inj (List.cons.inj h).2).1
  cases h1; cases h2; rfl
theorem valV_ent (q : Str × Str) : ∀ ps : List (Str × Str), (valV (ps.map entR) (keyR q)).isSome = decide (q ∈ ps)
  | [] => rfl
  | p :: ps => by
    rw [List.map_cons]
    by_cases h : p = q
    · subst h
      rw [valV_pos (by rfl)]; simp
    · rw [valV_neg (fun z => h (keyR_inj z)), valV_ent q ps]
      exact decide_eq_decide.mpr ⟨fun z => List.mem_cons_of_mem _ z, fun z => (List.mem_cons.mp z).resolve_left (fun e => h e.symm)⟩
theorem rulesAt_keys {H : Hp} : ∀ {ps : List (Str × Str)} {bs : List Addr}, IsKeys H (ps.map entR) bs → RulesAt H bs ps
  | [], _, h => by cases h; trivial
  | p :: ps, _, h => by
    cases h with
    | cons h1 h2 => exact ⟨h1, rulesAt_keys h2⟩
def rulesGo (sg : Str) : List (Str × Str) → List PyData → Nat → Except Nat (List (Str × Str))
  | ps, [], _ => .ok ps
  | ps, d :: r, i => if isRule sg d = false then .error i else match ruleOf d with
    | some q => if q ∈ ps then .error i else rulesGo sg (ps ++ [q]) r (i + 1)
    | none => .error i
def rulesOf (sg : Str) (d : PyData) : Except Int (List (Str × Str)) := match Wp.row d with
  | none => .error (-1)
  | some ds => if 64 < ds.length then .error (-1) else match rulesGo sg [] ds 0 with
    | .error i => .error (i : Nat)
    | .ok ps => .ok ps
/-- rules that are tuples are tracked -/
def Trk (K : PySem.W.Frag) (H : Hp) (v : V) (d : PyData) : Prop := ∀ ds, Wp.row d = some ds → ∃ p ws, v = .ref p ∧ (SqL K H p ws ∨ SqT K H p ws) ∧ DpAll K H ws ds ∧ ∀ (i : Nat) l r, ds[i]? = some (.tuple [.str l, .str r]) → ∃ b, ws[i]? = some (.ref b) ∧ H b = some (.tup [.str l, .str r])
section
variable {K : PySem.W.Frag} {H H' : Hp} {a C dx : Addr} {fs : List (Str × V)}
theorem sql_ins {b : Addr} {xs : List V} (h : H a = some (.ins C dx fs)) (k : Wp.Keep a H H') (s : SqL K H b xs) : SqL K H' b xs := by
  rcases s with (s | ⟨u, s⟩) | s
  · exact .inl (.inl (k _ _ (ne_of s h (by intro z; cases z)) s))
  · exact .inl (.inr ⟨u, k _ _ (ne_of s h (by intro z; cases z)) s⟩)
  · exact .inr s
theorem sqt_ins {b : Addr} {xs : List V} (h : H a = some (.ins C dx fs)) (k : Wp.Keep a H H') (s : SqT K H b xs) : SqT K H' b xs := by
  rcases s with (s | ⟨u, s⟩) | s
  · exact .inl (.inl (k _ _ (ne_of s h (by intro z; cases z)) s))
  · exact .inl (.inr ⟨u, k _ _ (ne_of s h (by intro z; cases z)) s⟩)
  · exact .inr s
mutual
theorem dp_ins (h : H a = some (.ins C dx fs)) (k : Wp.Keep a H H') : ∀ (d : PyData) (v : V), Dp K H v d → Dp K H' v d
  | .none, _, q => by cases q; exact .non
  | .bool b, _, q => by cases q; exact .bl b
  | .int i, _, q => by cases q; exact .int i
  | .str x, _, q => by cases q; exact .str x
  | .list ds, _, q => by
    cases q with
    | lst hs ha => exact .lst (sql_ins h k hs) (dps_ins h k ds _ ha)
  | .tuple ds, _, q => by
    cases q with
    | tup hs ha => exact .tup (sqt_ins h k hs) (dps_ins h k ds _ ha)
  | .dict _, _, q => by cases q
theorem dps_ins (h : H a = some (.ins C dx fs)) (k : Wp.Keep a H H') : ∀ (ds : List PyData) (vs : List V), DpAll K H vs ds → DpAll K H' vs ds
  | [], _, q => by cases q; exact .nil
  | d :: ds, _, q => by
    cases q with
    | cons h1 h2 => exact .cons (dp_ins h k d _ h1) (dps_ins h k ds _ h2)
end
theorem trk_ins {v : V} {d : PyData} (h : H a = some (.ins C dx fs)) (k : Wp.Keep a H H') (t : Trk K H v d) : Trk K H' v d := fun ds e => by
  obtain ⟨p, ws, h1, h2, h3, h4⟩ := t ds e
  refine ⟨p, ws, h1, h2.elim (fun s => .inl (sql_ins h k s)) (fun s => .inr (sqt_ins h k s)), dps_ins h k _ _ h3, fun i l r e => ?_⟩
  obtain ⟨b, b1, b2⟩ := h4 i l r e
  exact ⟨b, b1, k _ _ (ne_of b2 h (by intro z; cases z)) b2⟩
end
def spRules (K : PySem.W.Frag) (C : Addr) : Sp := fun vs H Q E => ∃ sg v d, vs = [.str sg, v] ∧ Dp K H v d ∧ Wp.sm d = true ∧ Trk K H v d ∧
  (∀ ps, rulesOf sg d = .ok ps → ∀ H' t bs, Same H H' → H' t = some (.tup (bs.map V.ref)) → RulesAt H' bs ps → Q (.ref t) H') ∧
  (∀ i : Int, rulesOf sg d = .error i → ∀ dd H', H dd = none → Same H H' → H' dd = some (.xd [("place", .int i)]) → E (.ref C) (some dd) H')
theorem ok_rules (B : Wp.Blt mg) {f fR fU C fI : Addr} {fd fdR fdU fdI : FuncData} (F : Fun K "rules_of" "rules_of" s_rules_of f fd) (c_MOST_RULES : ∃ t, mg "MOST_RULES" = some (.int 64 t))
    (D_is_row : Wp.Dh K mg "is_row" fR fdR ["thing"]) (G_is_row : FnOk P w K mg base CX0 1 fR fdR ["thing"] (spRow K))
    (D_is_rule : Wp.Dh K mg "is_rule" fU fdU ["signs", "thing"]) (G_is_rule : FnOk P w K mg base CX0 2 fU fdU ["signs", "thing"] (spRule K))
    (T_BadRule : Wp.ExT K mg "BadRule" C fI "place") (G_BadRule : FnOk P w K mg base CX0 1 fI fdI ["self", "place"] (Wp.spInit K "place")) (b_BadRule : Binds K fdI ["self", "place"] []) : FnOk P w K mg base (L2.CX P w) 3 f fd ["signs", "things"] (spRules K C) := by
  obtain ⟨tk, c_MOST_RULES⟩ := c_MOST_RULES
  refine F.okX sc_rules_of (fun vs H Q E h => ?_) (fun cdv A outer s H vs Q E hr h => ?_)
  · obtain ⟨sg, v, d, rfl, _⟩ := h
    rfl
  · obtain ⟨sg, v, d, rfl, hd, hsm, htk, qr, qe⟩ := h
    refine ⟨_, (pss_cons (ps_if (PW.pt (pw_or (pt_not (pt_val (pe_call G_is_row (hr.mono (by decide)) (by rfl) D_is_row.g D_is_row.k D_is_row.b .nil pass0 (pa_cons (pv 1) pa_nil)))) (pw_or1 (pt_cmpR wo_gt (pe_callB (Wp.wc_len (K := K)) (by rfl) B.len (by decide +kernel) (pa_cons (pv 1) pa_nil)) (pe_glob (v := .int 64) (by rfl) c_MOST_RULES ⟨_, rfl⟩) (nomark _))))) (pss_one (ps_raise rfl (takes_of rfl rfl rfl rfl) (pmk_oex T_BadRule.O T_BadRule.iC T_BadRule.tI G_BadRule (hr.mono (by decide)) b_BadRule .nil pass0 (by rfl) T_BadRule.g (pa_cons (pe_un un_neg pe_int) pa_nil)))) pss_nil)
  (pss_cons (ps_set (i := 2) sc_rules_of.nd rfl (by first | exact .inl rfl | exact .inr rfl) pe_dnewT)
  (pss_cons (ps_for (passes_of rfl) rfl (Wp.wi_enum (K := K) (by rfl) B.enumerate (pa_cons (pv 1) pa_nil)) (Wp.wg_tup (K := K) (n := 2) rfl (pgs_cons (pg_name (i := 3) sc_rules_of.nd rfl (by first | exact .inl rfl | exact .inr rfl)) (pgs_cons (pg_name (i := 4) sc_rules_of.nd rfl (by first | exact .inl rfl | exact .inr rfl)) pgs_nil))) (pss_cons (ps_if (PW.pt (pw_or (pt_not (pt_val (pe_call G_is_rule (hr.mono (by decide)) (by rfl) D_is_rule.g D_is_rule.k D_is_rule.b .nil pass0 (pa_cons (pv 0) (pa_cons (pv 4) pa_nil))))) (pw_or1 (pt_cmp (pc_din (hu_of hr) (pe_callTy (Wp.wc_tuple (K := K)) (by rfl) B.tuple (by decide +kernel) (pa_cons (pv 4) pa_nil)) (pv 2)))))) (pss_one (ps_raise rfl (takes_of rfl rfl rfl rfl) (pmk_oex T_BadRule.O T_BadRule.iC T_BadRule.tI G_BadRule (hr.mono (by decide)) b_BadRule .nil pass0 (by rfl) T_BadRule.g (pa_cons (pv 3) pa_nil)))) pss_nil)
  (pss_one (ps_dput (hu_of hr) (pv 2) (pe_callTy (Wp.wc_tuple (K := K)) (by rfl) B.tuple (by decide +kernel) (pa_cons (pv 4) pa_nil)) pe_bl rfl))))
  (pss_one (ps_ret (pe_callTy (Wp.wc_tuple (K := K)) (by rfl) B.tuple (by decide +kernel) (pa_cons (pe_callTy (Wp.wc_listU (K := K) rfl) (by rfl) B.list (by decide +kernel) (pa_cons (pv 2) pa_nil)) pa_nil))))))), ?_⟩
    refine Wp.st (σ' := [some (.str sg), some v, none, none, none]) rfl ?_
    have bad : ∀ {H1 i}, Same H H1 → rulesOf sg d = .error i → Wp.MkI C (Wp.spInit K "place") [] (fun cls d H' => E cls d H') [.int i] H1 := fun s1 hb => Wp.mki T_BadRule fun dd H' h1 h2 h3 => qe _ hb dd H' (s1.free h1) (s1.trans h2) h3
    repeat walk_at "W"
    refine ⟨v, d, rfl, hd, fun H1 s1 => ?_⟩
    repeat walk_at "W"
    cases hrow : Wp.row d with
    | none =>
      repeat walk_at "W"
      exact bad s1 (by unfold rulesOf; rw [hrow])
    | some ds =>
      obtain ⟨p, ws, rfl, hsq, hal, htr⟩ := htk ds hrow
      have hsA := Wp.sm_row hsm hrow
      have hll := Wp.dps_len hal
      have hsq1 := Wp.sqU_same s1 hsq
      repeat walk_at "W"
      refine Wp.lenU hsq1 ?_
      repeat walk_at "W"
      refine Wp.itd (fun h64 => ?_) (fun h64 => ?_)
      · repeat walk_at "W"
        exact bad s1 (by unfold rulesOf; rw [hrow]; exact if_pos (by omega))
      have hgo : rulesOf sg d = match rulesGo sg [] ds 0 with
          | .error i => .error (i : Nat)
          | .ok ps => .ok ps := by unfold rulesOf; rw [hrow]; exact if_neg (by omega)
      repeat walk_at "W"
      intro S hS
      have sS := Wp.same_upd (o := .dT []) hS
      repeat walk_at "W"
      refine ⟨p, ws, rfl, Wp.enumU hsq (s1.trans sS) (fun i σ1 H1 => ∃ ps x3 x4, σ1 = [some (.str sg), some (.ref p), some (.ref S), x3, x4] ∧ Same H H1 ∧ H1 S = some (.dT (ps.map entR)) ∧ ps.length ≤ i ∧ rulesGo sg [] ds 0 = rulesGo sg ps (ds.drop i) i) ⟨[], _, _, rfl, s1.trans sS, upd_same, Nat.le_refl _, rfl⟩ (fun i σ1 H1 ⟨_, _, _, _, h, _⟩ => h) ?_ ?_⟩
      · rintro i x σ1 H2 T hx ⟨ps, x3, x4, rfl, s2, hSd, hpl, he⟩ hT
        obtain ⟨di, hdi, hdx⟩ := Wp.dps_get hal hx
        have smT := Wp.same_upd (p := T) (o := .tup [.int (i : Nat), x]) hT
        have hd1 : ds.drop i = di :: ds.drop (i + 1) := by
          obtain ⟨hl, hx⟩ := List.getElem?_eq_some_iff.mp hdi
          rw [List.drop_eq_getElem_cons hl, hx]
        rw [hd1] at he
        have sT := s2.trans smT
        have hi64 : i < 64 := by
          have := (List.getElem?_eq_some_iff.mp hdi).1
          omega
        refine Wp.gt (SqT.of upd_same) rfl ?_
        repeat walk_at "W"
        refine ⟨sg, x, di, rfl, Wp.dp_same sT _ _ hdx, Wp.smA_get hsA hdi, fun H3 s3 => ?_⟩
        repeat walk_at "W"
        refine Wp.itnb (fun e1 => ?_) (fun e1 => ?_)
        · repeat walk_at "W"
          refine bad (sT.trans s3) ?_
          rw [hgo, he]
          unfold rulesGo
          rw [if_pos e1]
        obtain ⟨l, r, hro, hrw, _⟩ := isRule_of e1
        have tupR : ∀ {H4 : Hp} {R : VK}, Same H H4 → (∀ b H5, Same H4 H5 → H5 b = some (.tup [.str l, .str r]) → R (.ref b) H5) → Wp.rTupOf K [x] H4 R := by
          intro H4 R s4 hR
          cases di with
          | list xs =>
            cases hrw
            cases hdx with
            | lst hs ha =>
            cases ha with
            | cons a1 ha =>
            cases ha with
            | cons a2 ha =>
            cases ha; cases a1; cases a2
            exact Wp.tupL (s4.seq hs) fun l hl => hR l _ (Wp.same_upd hl) upd_same
          | tuple xs =>
            cases hrw
            obtain ⟨b, hb1, hb2⟩ := htr i l r hdi
            rw [hx] at hb1; cases hb1
            exact Wp.tupT (SqT.of (s4 _ _ hb2)) (hR b _ (Same.refl _) (s4 _ _ hb2))
          | _ => cases hrw
        repeat walk_at "W"
        refine tupR (sT.trans s3) fun b H4 s4 hb => ?_
        have hS4 := s4 _ _ (s3 _ _ (smT _ _ hSd))
        repeat walk_at "W"
        refine Wp.dT_in (k := keyR (l, r)) hS4 hb ?_
        rw [valV_ent]
        repeat walk_at "W"
        refine Wp.itd (fun e2 => ?_) (fun e2 => ?_)
        · repeat walk_at "W"
          refine bad ((sT.trans s3).trans s4) ?_
          have h9 : rulesGo sg ps (di :: ds.drop (i + 1)) i = .error i := by
            rw [rulesGo, if_neg (by rw [e1]; simp), hro]
            exact if_pos e2
          rw [hgo, he, h9]
        repeat walk_at "W"
        refine tupR ((sT.trans s3).trans s4) fun b2 H5 s5 hb2 => ?_
        have hS5 := s5 _ _ hS4
        have hnone : valV (ps.map entR) (keyR (l, r)) = none := by
          have := valV_ent (l, r) ps
          rw [decide_eq_false e2] at this
          cases q : valV (ps.map entR) (keyR (l, r)) with
          | none => rfl
          | some _ => rw [q] at this; cases this
        refine Wp.dT_put (k := keyR (l, r)) hS5 hb2 (by rw [List.length_map]; exact small1000 (by omega)) ?_
        rw [putK_new _ hnone]
        have hS0 : H S = none := s1.free hS
        refine ⟨ps ++ [(l, r)], _, _, rfl, fun b o e => ?_, ?_, ?_, ?_⟩
        · rw [upd_ne (ne_of_none e hS0)]
          exact s5 _ _ (s4 _ _ (s3 _ _ (sT _ _ e)))
        · rw [upd_same, List.map_append]; rfl
        · rw [List.length_append]; simp; omega
        · have h9 : rulesGo sg ps (di :: ds.drop (i + 1)) i = rulesGo sg (ps ++ [(l, r)]) (ds.drop (i + 1)) (i + 1) := by
            rw [rulesGo, if_neg (by rw [e1]; simp), hro]
            exact if_neg e2
          exact he.trans h9
      · rintro σ1 H2 ⟨ps, x3, x4, rfl, s2, hSd, hpl, he⟩
        rw [hll, List.drop_length] at he
        repeat walk_at "W"
        refine .inr (.inl ⟨S, ps.map entR, rfl, .inl hSd, fun p2 bs hp2 hk => ?_⟩)
        have u1 := Wp.same_upd (o := .lst (bs.map V.ref)) hp2
        repeat walk_at "W"
        refine Wp.tupL (SqL.of upd_same) fun t ht => ?_
        have u2 := Wp.same_upd (o := .tup (bs.map V.ref)) ht
        refine qr ps ?_ _ t bs ((s2.trans u1).trans u2) upd_same ((rulesAt_keys hk).same (u1.trans u2))
        rw [hgo, he]; rfl
end
end K09
set_option Elab.async false
set_option linter.all false
set_option maxRecDepth 100000
set_option maxHeartbeats 8000000
namespace K09
open PySem PySem.Spec PyProof.Rows L2 Bk
open Wp (wo_lt wo_le wo_gt wo_ge wo_eq wo_ne wo_in wo_nin wo_add wo_mul op_shlB ws_any wc_int wc_isi u65)
abbrev s_first_rights : Stmt := topS 36
abbrev N_first_rights : List Str := ["rules", "found", "number", "left", "right"]
theorem sc_first_rights : FnScope N_first_rights ["rules"] (defScope s_first_rights) := ⟨rfl, rfl, rfl, by decide +kernel, rfl, by decide +kernel, by decide +kernel⟩
abbrev s_first_fit : Stmt := topS 38
abbrev N_first_fit : List Str := ["rights", "tail", "best", "start", "left", "number", "right"]
theorem sc_first_fit : FnScope N_first_fit ["rights", "tail"] (defScope s_first_fit) := ⟨rfl, rfl, rfl, by decide +kernel, rfl, by decide +kernel, by decide +kernel⟩
abbrev s_left_of_all : Stmt := topS 40
abbrev N_left_of_all : List Str := ["rights", "pieces", "pile", "text", "is_end", "fresh", "place", "sign", "fit", "_", "left", "right"]
theorem sc_left_of_all : FnScope N_left_of_all ["rights", "pieces"] (defScope s_left_of_all) := ⟨rfl, rfl, rfl, by decide +kernel, rfl, by decide +kernel, by decide +kernel⟩
abbrev s_left_over : Stmt := topS 39
abbrev N_left_over : List Str := ["rights", "text"]
theorem sc_left_over : FnScope N_left_over ["rights", "text"] (defScope s_left_over) := ⟨rfl, rfl, rfl, by decide +kernel, rfl, by decide +kernel, by decide +kernel⟩
local macro_rules | `(tactic| walk_at "W") => `(tactic| first
  | (with_reducible first
    | refine Wp.seq ?_ | refine Wp.asg ?_ | refine Wp.ret ?_ | refine Wp.retN ?_ | refine Wp.drop ?_ | refine Wp.nxt ?_ | refine Wp.ifs ?_ | refine Wp.gname ?_
    | refine Wp.op ?_ | refine Wp.un ?_ | refine Wp.tst ?_ | refine Wp.tb' ?_ | refine Wp.tnot ?_ | refine Wp.tand ?_ | refine Wp.tor ?_ | refine Wp.tandV ?_ | refine Wp.torV ?_ | refine Wp.tnotV ?_ | refine Wp.tif ?_ | refine Wp.tchain ?_
    | refine Wp.cb ?_ | refine Wp.call ?_ | refine Wp.cons ?_ | refine Wp.nil ?_ | refine Wp.gsub ?_ | refine Wp.cst ?_ | refine Wp.i0 ?_ | refine Wp.int1 ?_ | refine Wp.eb ?_ | refine Wp.ei ?_
    | refine Wp.gnil ?_ | refine Wp.gcons ?_ | refine Wp.mko ?_ | refine Wp.bm ?_ | refine Wp.ienum ?_ | refine Wp.tru ?_ | refine Wp.u1 ?_ | refine Wp.for_ ?_ | refine Wp.lc ?_ | refine Wp.istr ?_ | refine Wp.ilist ?_ | refine Wp.itup ?_ | refine Wp.irng1 ?_ | refine Wp.irng2 ?_ | refine Wp.yes ?_ | refine Wp.es ?_ | refine Wp.er ?_ | refine Wp.sl ?_ | refine Wp.nopart ?_ | refine Wp.part ?_ | refine Wp.lst ?_ | refine Wp.tup ?_
    | refine Wp.din ?_ | refine Wp.dnotin ?_ | refine Wp.dget ?_ | refine Wp.dget2 ?_ | refine Wp.dput ?_ | refine Wp.dnewK ?_ | refine Wp.dnewT ?_ | refine Wp.bm0 ?_ | refine Wp.m1 ?_ | refine Wp.exs ?_ | refine Wp.is0 ?_ | refine Wp.isnot0 ?_ | refine Wp.fld ?_ | refine Wp.sfld ?_
    | refine Wp.par ?_ | refine Wp.parV ?_ | refine Wp.brk ?_ | refine Wp.aug ?_ | refine Wp.ipaI ?_ | refine Wp.ipsI ?_ | refine Bk.ienumS ?_ | refine Wp.make_ ?_ | refine Wp.itnn ?_ | refine Wp.ltI ?_ | refine Wp.leI ?_ | refine Wp.leS ?_ | refine Wp.inSg ?_ | refine Wp.gtI ?_ | refine Wp.geI ?_ | refine Wp.eqI ?_ | refine Wp.neI ?_ | refine Wp.addI ?_ | refine Wp.ltS ?_ | refine Wp.eqS ?_ | refine Wp.neS ?_)
  | ((with_reducible refine' Wp.var ?hv ?_); (case hv => exact rfl))
  | ((with_reducible refine' Wp.ixl ?hs ?he ?_); (case hs => first | exact SqL.of upd_same | exact SqL.of (by assumption) | assumption); (case he => exact rfl))
  | ((with_reducible refine' Wp.setl ?hs ?he ?_); (case hs => first | exact upd_same | assumption); (case he => exact rfl))
  | ((with_reducible refine' Wp.modP ?hs ?_); (case hs => first | decide | omega))
  | ((with_reducible refine' Wp.divN ?hs ?ht ?_); (case hs => first | decide | omega); (case ht => first | decide | omega))
  | ((with_reducible refine' Wp.mulM ?hs ?ht ?_); (case hs => decide); (case ht => decide))
  | ((with_reducible refine' Wp.mulL ?hs ?_); (case hs => omega))
  | ((with_reducible refine' Wp.mulR ?hs ?_); (case hs => omega))
  | ((with_reducible refine' Wp.powS ?hs ?_); (case hs => decide))
  | ((with_reducible refine' Wp.shr ?hs ?_); (case hs => decide))
  | ((with_reducible refine' Wp.szl ?hs ?_); (case hs => first | decide | (simp; done)))
  | ((with_reducible refine' Wp.lenL ?hs ?_); (case hs => first | exact SqL.of upd_same | exact SqL.of (by assumption) | assumption))
  | ((with_reducible refine' Wp.lenT ?hs ?_); (case hs => first | exact SqT.of upd_same | exact SqT.of (by assumption) | assumption))
  | ((with_reducible refine' Wp.iteC ?hs ?_); (case hs => exact rfl)) | ((with_reducible refine' Wp.iteD ?hs ?_); (case hs => exact Bool.false_ne_true))
  | ((with_reducible refine' Wp.wp ?hs ?_); (case hs => rfl))
  | (with_reducible first | refine Wp.abs ?_ | refine Wp.max2 ?_ | refine Wp.min2 ?_)
  | ((with_reducible refine' Wp.sll ?hs ?_); (case hs => first | exact SqL.of upd_same | exact SqL.of (by assumption) | assumption)))
local macro_rules | `(tactic| walk_at "KQ") => `(tactic| first
  | exact Wp.kq "int" rfl (by decide +kernel) | exact Wp.kq "bool" rfl (by decide +kernel) | exact Wp.kq "str" rfl (by decide +kernel) | exact Wp.kq "list" rfl (by decide +kernel)
  | exact Wp.kq "tuple" rfl (by decide +kernel) | exact Wp.kq "NoneType" rfl (by decide +kernel) | exact Wp.kq "dict" rfl (by decide +kernel))

theorem rulesAt_take {H : Hp} {bs : List Addr} {ps : List (Str × Str)} {i : Nat} {x : V} (h : RulesAt H bs ps) (e : (bs.map V.ref)[i]? = some x) : ∃ b p, x = .ref b ∧ ps[i]? = some p ∧ H b = some (.tup [.str p.1, .str p.2]) := by
  have hl := h.len
  rw [List.getElem?_map] at e
  obtain ⟨b, hb, rfl⟩ := Option.map_eq_some_iff.mp e
  have hi := (List.getElem?_eq_some_iff.mp hb).1
  have hp := List.getElem?_eq_getElem (show i < ps.length by omega)
  obtain ⟨b', h1, h2⟩ := h.get hp
  rw [hb] at h1; cases h1
  exact ⟨b, _, rfl, hp, h2⟩
section
variable {P : Program} {w : World} {K : PySem.W.Frag} {mg : Str → Option Value} {base : Heap}
def spRights : Sp := fun vs H Q _ => ∃ t bs rs, vs = [.ref t] ∧ H t = some (.tup (bs.map V.ref)) ∧ RulesAt H bs rs ∧ rs.length ≤ 64 ∧ ∀ H' d, Same H H' → RightsAt H' d rs → Q (.ref d) H'
theorem ok_rights (B : Wp.Blt mg) {f : Addr} {fd : FuncData} (F : Fun K "first_rights" "first_rights" s_first_rights f fd) : FnOk P w K mg base CX0 1 f fd ["rules"] spRights := by
  refine F.ok sc_first_rights (fun vs H Q E h => ?_) (fun cdv A outer s H vs Q E hr h => ?_)
  · obtain ⟨t, bs, rs, rfl, _⟩ := h
    rfl
  · obtain ⟨t, bs, rs, rfl, ht, hb, hl, q⟩ := h
    refine ⟨_, (pss_cons (ps_set (i := 1) sc_first_rights.nd rfl (by first | exact .inl rfl | exact .inr rfl) pe_dnewK)
  (pss_cons (ps_for PassesOwn.never rfl (Wp.wi_enum (K := K) (by rfl) B.enumerate (pa_cons (pv 0) pa_nil)) (Wp.wg_tup (K := K) (n := 2) rfl (pgs_cons (pg_name (i := 2) sc_first_rights.nd rfl (by first | exact .inl rfl | exact .inr rfl)) (pgs_cons (Wp.wg_tup (K := K) (n := 2) rfl (pgs_cons (pg_name (i := 3) sc_first_rights.nd rfl (by first | exact .inl rfl | exact .inr rfl)) (pgs_cons (pg_name (i := 4) sc_first_rights.nd rfl (by first | exact .inl rfl | exact .inr rfl)) pgs_nil))) pgs_nil))) (pss_one (ps_if (pt_cmp (pc_dnotin (hu_of hr) (pv 3) (pv 1))) (pss_one (ps_dput (hu_of hr) (pv 1) (pv 3) (pe_tup (pa_cons (pv 2) (pa_cons (pv 4) pa_nil))) rfl)) pss_nil)))
  (pss_one (ps_ret (pv 1))))), ?_⟩
    refine Wp.st (σ' := [some (.ref t), none, none, none, none]) rfl ?_
    repeat walk_at "W"
    intro D hD
    have sD := Wp.same_upd (o := .dK []) hD
    have hbl := hb.len
    repeat walk_at "W"
    refine ⟨t, bs.map V.ref, rfl, Wp.enumU (.inr (SqT.of ht)) sD (fun i σ1 H1 => ∃ x2 x3 x4, σ1 = [some (.ref t), some (.ref D), x2, x3, x4] ∧ Same H H1 ∧ RightsAt H1 D (rs.take i)) ⟨_, _, _, rfl, sD, ⟨[], upd_same, by simp, fun x => trivial⟩⟩ (fun i σ1 H1 ⟨_, _, _, _, h, _⟩ => h) ?_ ?_⟩
    · rintro i x σ1 H1 T hx ⟨x2, x3, x4, rfl, s1, hR⟩ hT
      obtain ⟨b, ⟨l, r⟩, rfl, hp, hbt⟩ := rulesAt_take hb hx
      have smT := Wp.same_upd (p := T) (o := .tup [.int (i : Nat), .ref b]) hT
      have sT := s1.trans smT
      have hi := (List.getElem?_eq_some_iff.mp hp).1
      have hlt : (rs.take i).length = i := by rw [List.length_take]; omega
      have htk : rs.take (i + 1) = rs.take i ++ [(l, r)] := by rw [List.take_add_one, hp]; rfl
      refine Wp.gt (SqT.of upd_same) rfl ?_
      repeat walk_at "W"
      refine Wp.gt (SqT.of (sT _ _ hbt)) rfl ?_
      repeat walk_at "W"
      obtain ⟨kvs, h1, h2, h3⟩ := (hR.same smT).ex
      refine Wp.dK_in h1 ?_
      rw [rights_get h3]
      repeat walk_at "W"
      refine Wp.itnb (fun e1 => ?_) (fun e1 => ?_)
      · have e1' : firstOf (rs.take i) l = none := by
          cases q : firstOf (rs.take i) l with
          | none => rfl
          | some _ => rw [q] at e1; cases e1
        repeat walk_at "W"
        intro T2 hT2
        have sm2 := Wp.same_upd (o := .tup [.int (i : Nat), .str r]) hT2
        repeat walk_at "W"
        refine Wp.dK_put (sm2 _ _ h1) (small1000 (by omega)) ?_
        have hH0 : H D = none := hD
        refine ⟨_, _, _, rfl, fun b o e => ?_, ?_⟩
        · rw [upd_ne (ne_of_none e hD)]
          exact sm2 _ _ (sT _ _ e)
        · rw [htk]
          exact rights_new (sm2 _ _ h1) h2 (fun x => (h3 x).same fun b xs e => sm2 _ _ e) e1' (by rw [hlt]; exact upd_same)
      · repeat walk_at "W"
        refine ⟨_, _, _, rfl, sT, ?_⟩
        rw [htk]
        refine rights_old ⟨kvs, h1, h2, h3⟩ fun z => ?_
        rw [z] at e1; cases e1
    · rintro σ1 H1 ⟨x2, x3, x4, rfl, s1, hR⟩
      rw [List.length_map, hbl, List.take_length] at hR
      repeat walk_at "W"
      exact q _ _ s1 hR
def spFit : Sp := fun vs H Q _ => ∃ d rs z, vs = [.ref d, .str z] ∧ RightsAt H d rs ∧ z.length ≤ 1000 ∧ ∀ H' v, Same H H' → BestV H' v (fit rs (cl z)) → Q v H'
theorem ok_fit (B : Wp.Blt mg) {f : Addr} {fd : FuncData} (F : Fun K "first_fit" "first_fit" s_first_fit f fd) : FnOk P w K mg base CX0 1 f fd ["rights", "tail"] spFit := by
  refine F.ok sc_first_fit (fun vs H Q E h => ?_) (fun cdv A outer s H vs Q E hr h => ?_)
  · obtain ⟨d, rs, z, rfl, _⟩ := h
    rfl
  · obtain ⟨d, rs, z, rfl, hR, hz, q⟩ := h
    refine ⟨_, (pss_cons (ps_set (i := 2) sc_first_fit.nd rfl (by first | exact .inl rfl | exact .inr rfl) pe_non)
  (pss_cons (ps_for PassesOwn.never rfl (pi_range1 (by rfl) B.range (pa_cons (pe_callB (Wp.wc_len (K := K)) (by rfl) B.len (by decide +kernel) (pa_cons (pv 1) pa_nil)) pa_nil)) (pg_name (i := 3) sc_first_fit.nd rfl (by first | exact .inl rfl | exact .inr rfl)) (pss_cons (ps_set (i := 4) sc_first_fit.nd rfl (by first | exact .inl rfl | exact .inr rfl) (pe_slice (ws_any (K := K)) (pv 1) (po_some (pv 3)) po_none))
  (pss_one (ps_if (PW.pt (pw_and (pt_cmp (pc_din (hu_of hr) (pv 4) (pv 0))) (pw_and1 (PW.pt (pw_or (pt_cmpR Wp.wo_is (pv 2) pe_non (nomark _)) (pw_or1 (pt_cmpR wo_lt (pe_ix (Wp.wx_seq (K := K)) (pe_dget (hu_of hr) (pv 0) (pv 4) (fun _ _ => rfl)) pe_int (fun _ _ => rfl)) (pe_ix (Wp.wx_seq (K := K)) (pv 2) pe_int (fun _ _ => rfl)) (nomark _)))))))) (pss_cons (ps_asg (pe_dget (hu_of hr) (pv 0) (pv 4) (fun _ _ => rfl)) (Wp.wg_tup (K := K) (n := 2) rfl (pgs_cons (pg_name (i := 5) sc_first_fit.nd rfl (by first | exact .inl rfl | exact .inr rfl)) (pgs_cons (pg_name (i := 6) sc_first_fit.nd rfl (by first | exact .inl rfl | exact .inr rfl)) pgs_nil))))
  (pss_one (ps_set (i := 2) sc_first_fit.nd rfl (by first | exact .inl rfl | exact .inr rfl) (pe_tup (pa_cons (pv 5) (pa_cons (pv 4) (pa_cons (pv 6) pa_nil))))))) pss_nil))))
  (pss_one (ps_ret (pv 2))))), ?_⟩
    refine Wp.st (σ' := [some (.ref d), some (.str z), none, none, none, none, none]) rfl ?_
    repeat walk_at "W"
    refine Wp.lenS (Nat.le_of_lt (small1000 hz)) ?_
    repeat walk_at "W"
    refine ⟨_, rfl, by omega, by omega, ?_⟩
    refine Wp.forIt walk_range (fun i σ1 H1 => ∃ v x3 x4 x5 x6, σ1 = [some (.ref d), some (.str z), some v, x3, x4, x5, x6] ∧ Same H H1 ∧ BestV H1 v ((List.range i).foldl (stepFit rs (cl z)) none)) ⟨_, _, _, _, _, rfl, Same.refl _, rfl⟩ (fun _ _ _ _ _ => trivial) ?_ ?_
    · rintro i x σ1 H1 H1' hi ⟨v, x3, x4, x5, x6, rfl, s1, hB⟩ ⟨rfl, rfl⟩
      obtain ⟨kvs, h1, h2, h3⟩ := (hR.same s1).ex
      have ecut : cutS z (some (0 + (i : Int))) none = mkS ((cl z).drop i) := cutS_lo i (by omega)
      have hfold : (List.range (i + 1)).foldl (stepFit rs (cl z)) none = stepFit rs (cl z) ((List.range i).foldl (stepFit rs (cl z)) none) i := by rw [List.range_succ, List.foldl_append]; rfl
      generalize ho : (List.range i).foldl (stepFit rs (cl z)) none = o at hB hfold
      repeat walk_at "W"
      refine sls hz ?_
      rw [ecut]
      generalize hl : mkS ((cl z).drop i) = l
      iterate 2 walk_at "W"
      refine Wp.cutT (fun b H' => H' = H1' ∧ (b = false → stepFit rs (cl z) o i = o) ∧ (b = true → ∃ n r, firstOf rs l = some (n, r) ∧ stepFit rs (cl z) o i = some (n, l, r))) (fun R hR => ?_) ?_
      · repeat walk_at "W"
        refine Wp.dK_in h1 ?_
        rw [rights_get h3]
        cases hf : firstOf rs l with
        | none =>
          repeat walk_at "W"
          exact hR _ _ ⟨rfl, (fun _ => by unfold stepFit; rw [hl, hf]), (fun z => by cases z)⟩
        | some y =>
          obtain ⟨n, r⟩ := y
          obtain ⟨b, hb1, hb2⟩ := rights_some h3 hf
          repeat walk_at "W"
          rw [best_none hB]
          cases o with
          | none =>
            repeat walk_at "W"
            exact hR _ _ ⟨rfl, (fun z => by cases z), fun _ => ⟨n, r, hf, by unfold stepFit; rw [hl, hf]⟩⟩
          | some p =>
            obtain ⟨m, x, y⟩ := p
            obtain ⟨bb, rfl, hbb⟩ := hB
            repeat walk_at "W"
            refine Wp.dK_get h1 hb1 ?_
            repeat walk_at "W"
            refine Wp.ixt (SqT.of hb2) rfl ?_
            repeat walk_at "W"
            refine Wp.ixt (SqT.of hbb) rfl ?_
            repeat walk_at "W"
            refine hR _ _ ⟨rfl, fun z => ?_, fun z => ⟨n, r, hf, ?_⟩⟩
            · have z' := of_decide_eq_false z
              unfold stepFit; rw [hl, hf]
              exact if_neg (by omega)
            · have z' := of_decide_eq_true z
              unfold stepFit; rw [hl, hf]
              exact if_pos (by omega)
      · rintro b H2 ⟨rfl, hf, ht⟩
        cases b with
        | false =>
          repeat walk_at "W"
          refine ⟨_, _, _, _, _, rfl, s1, ?_⟩
          rw [hfold, hf rfl]; exact hB
        | true =>
          obtain ⟨n, r, hfi, hst⟩ := ht rfl
          obtain ⟨b, hb1, hb2⟩ := rights_some h3 hfi
          repeat walk_at "W"
          refine Wp.dK_get h1 hb1 ?_
          repeat walk_at "W"
          refine Wp.gt (SqT.of hb2) rfl ?_
          repeat walk_at "W"
          intro T hT
          repeat walk_at "W"
          refine ⟨_, _, _, _, _, rfl, s1.trans (Wp.same_upd hT), ?_⟩
          rw [hfold, hst]
          exact ⟨T, rfl, upd_same⟩
    · rintro σ1 H1 ⟨v, x3, x4, x5, x6, rfl, s1, hB⟩
      repeat walk_at "W"
      have e : (z.length : Int).toNat = (cl z).length := by rw [len_cl]; omega
      rw [e] at hB
      exact q _ _ s1 hB
def spAll : Sp := fun vs H Q _ => ∃ d PP T1 rs z, vs = [.ref d, .ref PP] ∧ H PP = some (.lst [.ref T1]) ∧ H T1 = some (.tup [.str z, .bl false]) ∧ RightsAt H d rs ∧ Good rs ∧ z.length ≤ 1000 ∧ ∀ H', Same H H' → Q (.str (mkS (overP rs (cl z)))) H'
theorem ok_all (B : Wp.Blt mg) {f fF : Addr} {fd fdF : FuncData} (F : Fun K "left_of_all" "left_of_all" s_left_of_all f fd) (c_LONGEST_LEFT : ∃ t, mg "LONGEST_LEFT" = some (.int 4 t))
    (D_first_fit : Wp.Dh K mg "first_fit" fF fdF ["rights", "tail"]) (G_first_fit : FnOk P w K mg base CX0 1 fF fdF ["rights", "tail"] spFit) : FnOk P w K mg base CX0 2 f fd ["rights", "pieces"] spAll := by
  obtain ⟨tk1, c_LONGEST_LEFT⟩ := c_LONGEST_LEFT
  refine F.ok sc_left_of_all (fun vs H Q E h => ?_) (fun cdv A outer s H vs Q E hr h => ?_)
  · obtain ⟨d, PP, T1, rs, z, rfl, _⟩ := h
    rfl
  · obtain ⟨d, PP, T1, rs, z, rfl, hPP, hT1, hR, hg, hz, q⟩ := h
    refine ⟨_, (pss_cons (ps_set (i := 2) sc_left_of_all.nd rfl (by first | exact .inl rfl | exact .inr rfl) (pe_lst pa_nil))
  (pss_cons (ps_for PassesOwn.never rfl (Wp.wi_list (K := K) (pv 1)) (Wp.wg_tup (K := K) (n := 2) rfl (pgs_cons (pg_name (i := 3) sc_left_of_all.nd rfl (by first | exact .inl rfl | exact .inr rfl)) (pgs_cons (pg_name (i := 4) sc_left_of_all.nd rfl (by first | exact .inl rfl | exact .inr rfl)) pgs_nil))) (pss_cons (ps_set (i := 5) sc_left_of_all.nd rfl (by first | exact .inl rfl | exact .inr rfl) pe_int)
  (pss_one (ps_for PassesOwn.never rfl (Bk.wi_enumS (by rfl) B.enumerate (pa_cons (pv 3) pa_nil)) (Wp.wg_tup (K := K) (n := 2) rfl (pgs_cons (pg_name (i := 6) sc_left_of_all.nd rfl (by first | exact .inl rfl | exact .inr rfl)) (pgs_cons (pg_name (i := 7) sc_left_of_all.nd rfl (by first | exact .inl rfl | exact .inr rfl)) pgs_nil))) (pss_cons (ps_if (PW.pt (pw_and (Wp.wt_truth (K := K) (pv 4) (by intro _; rfl)) (pw_and1 (PW.pt (pw_or (pt_not (Wp.wt_truth (K := K) (pv 2) (by intro _; rfl))) (pw_or1 (pt_cmpR (wo_eq (K := K) hr.units) (pv 5) (pe_op op_sub (pe_glob (v := .int 4) (by rfl) c_LONGEST_LEFT ⟨_, rfl⟩) pe_int) (nomark _)))))))) (pss_cons (ps_expr (Wp.wbm (K := K) (pe_bm PySem.F.plainAttrs_list PySem.F.slot_list_extend PySem.F.type_list_extend mt_extend (pv 2) (pa_cons (pe_slice (ws_any (K := K)) (pv 3) (po_some (pv 6)) po_none) pa_nil))))
  (pss_one ps_break)) pss_nil)
  (pss_cons (ps_expr (Wp.wbm (K := K) (pe_bm PySem.F.plainAttrs_list PySem.F.slot_list_append PySem.F.type_list_append mt_append (pv 2) (pa_cons (pv 7) pa_nil))))
  (pss_cons (ps_aug (i := 5) sc_left_of_all.nd rfl (by first | exact .inl rfl | exact .inr rfl) pe_int ip_add)
  (pss_cons (ps_set (i := 8) sc_left_of_all.nd rfl (by first | exact .inl rfl | exact .inr rfl) (pe_call G_first_fit (hr.mono (by decide)) (by rfl) D_first_fit.g D_first_fit.k D_first_fit.b .nil pass0 (pa_cons (pv 0) (pa_cons (Wp.wjoin (K := K) (pe_join pe_str (pe_slice (ws_any (K := K)) (pv 2) (po_some (pe_un un_neg (pe_glob (v := .int 4) (by rfl) c_LONGEST_LEFT ⟨_, rfl⟩))) po_none))) pa_nil))))
  (pss_one (ps_while PassesOwn.never (pt_cmpR Wp.wo_isnot (pv 8) pe_non (nomark _)) (pss_cons (ps_asg (pv 8) (Wp.wg_tup (K := K) (n := 3) rfl (pgs_cons (pg_name (i := 9) sc_left_of_all.nd rfl (by first | exact .inl rfl | exact .inr rfl)) (pgs_cons (pg_name (i := 10) sc_left_of_all.nd rfl (by first | exact .inl rfl | exact .inr rfl)) (pgs_cons (pg_name (i := 11) sc_left_of_all.nd rfl (by first | exact .inl rfl | exact .inr rfl)) pgs_nil)))))
  (pss_cons (ps_for PassesOwn.never rfl (pi_str (pv 10)) (pg_name (i := 9) sc_left_of_all.nd rfl (by first | exact .inl rfl | exact .inr rfl)) (pss_one (ps_expr (Wp.wbm0 (K := K) (pe_bm0 PySem.F.plainAttrs_list PySem.F.slot_list_pop PySem.F.type_list_pop mt_pop (pv 2))))))
  (pss_cons (ps_if (Wp.wt_truth (K := K) (pv 11) (by intro _; rfl)) (pss_one (ps_expr (Wp.wbm (K := K) (pe_bm PySem.F.plainAttrs_list PySem.F.slot_list_append PySem.F.type_list_append mt_append (pv 2) (pa_cons (pv 11) pa_nil))))) pss_nil)
  (pss_cons (ps_set (i := 5) sc_left_of_all.nd rfl (by first | exact .inl rfl | exact .inr rfl) pe_int)
  (pss_one (ps_set (i := 8) sc_left_of_all.nd rfl (by first | exact .inl rfl | exact .inr rfl) (pe_call G_first_fit (hr.mono (by decide)) (by rfl) D_first_fit.g D_first_fit.k D_first_fit.b .nil pass0 (pa_cons (pv 0) (pa_cons (Wp.wjoin (K := K) (pe_join pe_str (pe_slice (ws_any (K := K)) (pv 2) (po_some (pe_un un_neg (pe_glob (v := .int 4) (by rfl) c_LONGEST_LEFT ⟨_, rfl⟩))) po_none))) pa_nil)))))))))))))))))))
  (pss_one (ps_ret (Wp.wjoin (K := K) (pe_join pe_str (pv 2))))))), ?_⟩
    refine Wp.st (σ' := [some (.ref d), some (.ref PP), none, none, none, none, none, none, none, none, none, none]) rfl ?_
    have hzl := len_cl z
    repeat walk_at "W"
    intro L hL
    have sL := Wp.same_upd (o := .lst []) hL
    have hLe := upd_same (H := H) (a := L) (o := .lst [])
    generalize upd H L (.lst []) = H0 at sL hLe ⊢
    repeat walk_at "W"
    refine ⟨⟨_, SqL.of (sL _ _ hPP)⟩, Wp.forIt (walk_list (xs := [.ref T1])) (fun i σ1 H1 => ∃ x3 x4 x5 x6 x7 x8 x9 x10 x11, σ1 = [some (.ref d), some (.ref PP), some (.ref L), x3, x4, x5, x6, x7, x8, x9, x10, x11] ∧ Same H H1 ∧ H1 L = some (.lst ((if i = 0 then [] else overF rs [] (cl z)).map ch))) ⟨_, _, _, _, _, _, _, _, _, rfl, sL, hLe⟩ (fun i σ1 H1 _ ⟨_, _, _, _, _, _, _, _, _, _, s, _⟩ => SqL.of (s _ _ hPP)) ?_ ?_⟩
    rotate_left
    · rintro σ1 H1 ⟨x3, x4, x5, x6, x7, x8, x9, x10, x11, rfl, s1, hP⟩
      rw [if_neg (by simp)] at hP
      have hle : (overF rs [] (cl z)).length ≤ 1000 := by
        have h1 : (overP rs (cl z)).length ≤ (cl z).length := ((nf_over hg).star (cl z)).le (rr_short hg)
        have h2 : overF rs [] (cl z) = overP rs (cl z) := rfl
        rw [h2]; omega
      repeat walk_at "W"
      refine joinC (SqL.of hP) (by omega) ?_
      exact q _ s1
    rintro io xo σo Ho Ho' hio ⟨x3, x4, x5, x6, x7, x8, x9, x10, x11, rfl, sO, hPO⟩ ⟨eHo, hxo⟩
    have hio0 : io = 0 := by have : io < 1 := hio; omega
    subst hio0
    cases hxo
    rw [eHo]
    refine Wp.gt (SqT.of (sO _ _ hT1)) rfl ?_
    repeat walk_at "W"
    refine ⟨z, rfl, enumS (fun i σ1 H1 => ∃ cs fr x6 x7 x8 x9 x10 x11, σ1 = [some (.ref d), some (.ref PP), some (.ref L), some (.str z), some (.bl false), some (.int fr), x6, x7, x8, x9, x10, x11] ∧ Same H H1 ∧ H1 L = some (.lst (cs.map ch)) ∧ cs.length ≤ i ∧ overF rs [] ((cl z).take i) = cs) ⟨[], 0, _, _, _, _, _, _, rfl, sO, hPO, Nat.zero_le _, rfl⟩ ?_ ?_⟩
    · rintro i c σ1 H1 T hc ⟨cs, fr, x6, x7, x8, x9, x10, x11, rfl, s1, hP, hlen, hov⟩ hT
      have sT := Wp.same_upd (o := .tup [.int (i : Nat), ch c]) hT
      have hi2 : i < z.length := (Array.getElem?_eq_some_iff.mp hc).1
      have hcl : (cl z)[i]? = some c := by show z.cps.toList[i]? = _; rw [Array.getElem?_toList]; exact hc
      have hov1 : overF rs ([]) ((cl z).take (i + 1)) = shrinkP rs (cs ++ [c]).length (cs ++ [c]) := by
        rw [List.take_add_one, hcl]
        unfold overF
        rw [List.foldl_append]
        unfold overF at hov
        rw [hov]; rfl
      have upL : ∀ {G : Hp} (o : HO), Same H G → Same H (upd G L o) := fun o s b u e => by rw [upd_ne (ne_of_none e hL)]; exact s _ _ e
      refine Wp.gt (SqT.of upd_same) rfl ?_
      repeat walk_at "W"
      refine ⟨false, rfl, ?_⟩
      have s1T := s1.trans sT
      have hPT := sT _ _ hP
      generalize upd H1 T (.tup [.int (i : Nat), ch c]) = H1' at s1T hPT ⊢
      refine Wp.iteD Bool.false_ne_true ?_
      refine Wp.iteD Bool.false_ne_true ?_
      refine Wp.nxt ?_
      with_reducible refine Wp.cutQ (fun σ' H' => σ' = [some (.ref d), some (.ref PP), some (.ref L), some (.str z), some (.bl false), some (.int fr), some (.int (i : Nat)), some (ch c), x8, x9, x10, x11] ∧ Same H H' ∧ H' L = some (.lst ((cs ++ [c]).map ch))) (fun nx hn => ?_) ?_
      · repeat walk_at "W"
        refine Wp.tyl hPT ?_
        repeat walk_at "W"
        refine Wp.app hPT (by rw [List.length_map]; exact small1000 (by omega)) ?_
        repeat walk_at "W"
        exact hn _ _ ⟨rfl, upL _ s1T, by rw [upd_same, List.map_append]; rfl⟩
      rintro σ' H2 ⟨rfl, s2, hP2⟩
      have hlen2 : (cs ++ [c]).length ≤ 1000 := by rw [List.length_append]; simp; omega
      have hlen3 : (cs ++ [c]).length ≤ i + 1 := by rw [List.length_append]; simp; omega
      generalize cs ++ [c] = cs2 at hP2 hov1 hlen2 hlen3
      have fitC : ∀ (cs2 : List Nat) (H2 : Hp) (a5 a6 a7 a8 a9 a10 a11 : Option V) (D : Ends), Same H H2 → H2 L = some (.lst (cs2.map ch)) → cs2.length ≤ 1000 → (∀ v H3, Same H2 H3 → BestV H3 v (fit rs (last4 cs2)) → D.nx [some (.ref d), some (.ref PP), some (.ref L), some (.str z), some (.bl false), a5, a6, a7, some v, a9, a10, a11] H3) →
          tAsg (tCall spFit [] E0 (tCons (tVar 0) (tCons (tM1 (Wp.rJoin K) (tC (.str "")) (tSl (Wp.rSlU K) (tVar 2) (tPart (tUn (rU fun i => V.int (-i)) (tC (.int 4)))) tNoPart)) tNil))) (gName 8) D [some (.ref d), some (.ref PP), some (.ref L), some (.str z), some (.bl false), a5, a6, a7, a8, a9, a10, a11] H2 := by
        intro cs2 H2 a5 a6 a7 a8 a9 a10 a11 D s2 hP2 hl h
        repeat walk_at "W"
        intro q hq
        rw [cut4]
        have u1 := Wp.same_upd (o := .lst ((last4 cs2).map ch)) hq
        refine joinC (SqL.of upd_same) (by rw [List.length_drop]; omega) ?_
        repeat walk_at "W"
        refine ⟨d, rs, _, rfl, hR.same (s2.trans u1), by rw [len_mk, List.length_drop]; omega, fun H3 v s3 hb => ?_⟩
        rw [cl_mk] at hb
        repeat walk_at "W"
        exact h v H3 (u1.trans s3) hb
      refine Wp.cutQ (fun σ' H' => σ' = [some (.ref d), some (.ref PP), some (.ref L), some (.str z), some (.bl false), some (.int (fr + 1)), some (.int (i : Nat)), some (ch c), x8, x9, x10, x11] ∧ H' = H2) (fun nx hn => ?_) ?_
      · repeat walk_at "W"
        refine ⟨_, rfl, ?_⟩
        repeat walk_at "W"
        exact hn _ _ ⟨rfl, rfl⟩
      rintro σ' H2 ⟨rfl, rfl⟩
      refine Wp.seq ?_
      refine fitC cs2 H2 _ _ _ x8 x9 x10 x11 _ s2 hP2 hlen2 fun v H3 s3 hB => ?_
      have sA := s2.trans s3
      have hPA := s3 _ _ hP2
      refine whileN (fun σ' H' => ∃ cs v fr x9 x10 x11, σ' = [some (.ref d), some (.ref PP), some (.ref L), some (.str z), some (.bl false), some (.int fr), some (.int (i : Nat)), some (ch c), some v, x9, x10, x11] ∧ Same H H' ∧ H' L = some (.lst (cs.map ch)) ∧ cs.length ≤ i + 1 ∧ BestV H' v (fit rs (last4 cs)) ∧ shrinkP rs cs.length cs = shrinkP rs cs2.length cs2)
        (fun _ H' => match H' L with | some (.lst xs) => xs.length | _ => 0) ⟨cs2, v, _, _, _, _, rfl, sA, hPA, hlen3, hB, rfl⟩ ?_
      rintro σ' H4 ⟨cs3, v3, fr3, z9, z10, z11, rfl, s4, hP4, hl4, hB4, hsh⟩
      refine ⟨v3, rfl, ?_⟩
      rw [best_none hB4]
      cases hf : fit rs (last4 cs3) with
      | none =>
        refine Wp.iteD (by simp) ?_
        refine ⟨cs3, _, _, _, _, _, _, _, rfl, s4, hP4, by omega, ?_⟩
        rw [hov1, ← hsh, shrinkP_none hf]
      | some p =>
        obtain ⟨n, l, r⟩ := p
        obtain ⟨g1, g2, g3, g4, g5⟩ := fit_len hg hf
        rw [hf] at hB4
        obtain ⟨b, rfl, hb⟩ := hB4
        refine Wp.iteC rfl ?_
        refine Wp.cutQ (fun σ' H' => σ' = [some (.ref d), some (.ref PP), some (.ref L), some (.str z), some (.bl false), some (.int fr3), some (.int (i : Nat)), some (ch c), some (.ref b), some (.int n), some (.str l), some (.str r)] ∧ H' = H4) (fun nx hn => ?_) ?_
        · repeat walk_at "W"
          refine Wp.gt (SqT.of hb) rfl ?_
          repeat walk_at "W"
          exact hn _ _ ⟨rfl, rfl⟩
        rintro σ' H5 ⟨rfl, rfl⟩
        have hll := len_cl l
        refine Wp.cutQ (fun σ' H' => ∃ z9, σ' = [some (.ref d), some (.ref PP), some (.ref L), some (.str z), some (.bl false), some (.int fr3), some (.int (i : Nat)), some (ch c), some (.ref b), z9, some (.str l), some (.str r)] ∧ Same H H' ∧ H' L = some (.lst ((cs3.take (cs3.length - l.length)).map ch))) (fun nx hn => ?_) ?_
        · repeat walk_at "W"
          refine Wp.forIt walk_str (fun j σ1 H1 => ∃ z9, σ1 = [some (.ref d), some (.ref PP), some (.ref L), some (.str z), some (.bl false), some (.int fr3), some (.int (i : Nat)), some (ch c), some (.ref b), z9, some (.str l), some (.str r)] ∧ Same H H1 ∧ H1 L = some (.lst ((cs3.take (cs3.length - j)).map ch))) ⟨_, rfl, s4, by rw [Nat.sub_zero, List.take_length]; exact hP4⟩ (fun _ _ _ _ _ => trivial) ?_ ?_
          · rintro j x σ1 H1 H1' hj ⟨z9, rfl, s5, hP5⟩ ⟨rfl, c5, hc5, rfl⟩
            have hj2 : j < l.length := hj
            obtain ⟨cc, hcc⟩ := last_snoc (cs3.take (cs3.length - j)) (by rw [List.length_take]; omega)
            rw [List.length_take, List.take_take] at hcc
            rw [show min (min (cs3.length - j) cs3.length - 1) (cs3.length - j) = cs3.length - (j + 1) by omega] at hcc
            rw [hcc, List.map_append] at hP5
            repeat walk_at "W"
            refine Wp.tyl hP5 ?_
            refine Wp.pop hP5 ?_
            repeat walk_at "W"
            exact ⟨_, rfl, upL _ s5, upd_same⟩
          · rintro σ1 H1 ⟨z9, rfl, s5, hP5⟩
            exact hn _ _ ⟨z9, rfl, s5, hP5⟩
        rintro σ' H6 ⟨z9, rfl, s6, hP6⟩
        refine Wp.cutQ (fun σ' H' => σ' = [some (.ref d), some (.ref PP), some (.ref L), some (.str z), some (.bl false), some (.int fr3), some (.int (i : Nat)), some (ch c), some (.ref b), z9, some (.str l), some (.str r)] ∧ Same H H' ∧ H' L = some (.lst ((cs3.take (cs3.length - l.length) ++ cl r).map ch))) (fun nx hn => ?_) ?_
        · repeat walk_at "W"
          refine truS (by omega) ?_
          have hrl := len_cl r
          cases hr : cl r with
          | nil =>
            rw [hr] at hrl
            refine Wp.iteD (by simp at hrl; simp [← hrl]) ?_
            refine hn _ _ ⟨rfl, s6, ?_⟩
            rw [hr, List.append_nil]; exact hP6
          | cons c0 rest =>
            rw [hr] at hrl
            have hrest : rest = [] := by
              cases rest with
              | nil => rfl
              | cons _ _ => simp at hrl; omega
            subst hrest
            have er : r = ⟨#[c0]⟩ := ext hr
            refine Wp.iteC (by simp at hrl; simp [← hrl]) ?_
            repeat walk_at "W"
            refine Wp.tyl hP6 ?_
            repeat walk_at "W"
            refine Wp.app hP6 (by rw [List.length_map, List.length_take]; exact small1000 (by omega)) ?_
            repeat walk_at "W"
            refine hn _ _ ⟨rfl, upL _ s6, ?_⟩
            rw [upd_same, List.map_append, er]; rfl
        rintro σ' H7 ⟨rfl, s7, hP7⟩
        have hln : (cs3.take (cs3.length - l.length) ++ cl r).length < cs3.length := by rw [List.length_append, List.length_take, len_cl]; omega
        refine Wp.cutQ (fun σ' H' => σ' = [some (.ref d), some (.ref PP), some (.ref L), some (.str z), some (.bl false), some (.int 0), some (.int (i : Nat)), some (ch c), some (.ref b), z9, some (.str l), some (.str r)] ∧ H' = H7) (fun nx hn => ?_) ?_
        · repeat walk_at "W"
          exact hn _ _ ⟨rfl, rfl⟩
        rintro σ' H7 ⟨rfl, rfl⟩
        refine fitC _ H7 _ _ _ _ _ _ _ _ s7 hP7 (by omega) fun v8 H8 s8 hB8 => ?_
        refine ⟨⟨_, v8, _, _, _, _, rfl, s7.trans s8, s8 _ _ hP7, by omega, hB8, ?_⟩, ?_⟩
        · rw [← hsh, shrinkP_some hg hf]
        · have e1 := s8 _ _ hP7
          show (match H8 L with | some (.lst xs) => xs.length | _ => 0) < (match H5 L with | some (.lst xs) => xs.length | _ => 0)
          rw [e1, hP4]
          show ((cs3.take (cs3.length - l.length) ++ cl r).map ch).length < (cs3.map ch).length
          rw [List.length_map, List.length_map]; exact hln
    · rintro σ1 H1 ⟨cs, fr, x6, x7, x8, x9, x10, x11, rfl, s1, hP, hlen, hov⟩
      have e : (cl z).take z.cps.size = cl z := List.take_of_length_le (by rw [hzl]; exact Nat.le_refl _)
      rw [e] at hov
      refine ⟨_, _, _, _, _, _, _, _, _, rfl, s1, ?_⟩
      rw [if_neg (by decide), hov]
      exact hP
def spLeft : Sp := fun vs H Q _ => ∃ d rs z, vs = [.ref d, .str z] ∧ RightsAt H d rs ∧ Good rs ∧ z.length ≤ 1000 ∧ ∀ H', Same H H' → Q (.str (mkS (overP rs (cl z)))) H'
theorem ok_left (B : Wp.Blt mg) {f fF : Addr} {fd fdF : FuncData} (F : Fun K "left_over" "left_over" s_left_over f fd)
    (D_left_of_all : Wp.Dh K mg "left_of_all" fF fdF ["rights", "pieces"]) (G_left_of_all : FnOk P w K mg base CX0 2 fF fdF ["rights", "pieces"] spAll) : FnOk P w K mg base CX0 3 f fd ["rights", "text"] spLeft := by
  refine F.ok sc_left_over (fun vs H Q E h => ?_) (fun cdv A outer s H vs Q E hr h => ?_)
  · obtain ⟨d, rs, z, rfl, _⟩ := h
    rfl
  · obtain ⟨d, rs, z, rfl, hR, hg, hz, q⟩ := h
    refine ⟨_, (pss_one (ps_ret (pe_call G_left_of_all (hr.mono (by decide)) (by rfl) D_left_of_all.g D_left_of_all.k D_left_of_all.b .nil pass0 (pa_cons (pv 0) (pa_cons (pe_lst (pa_cons (pe_tup (pa_cons (pv 1) (pa_cons pe_bl pa_nil))) pa_nil)) pa_nil))))), ?_⟩
    refine Wp.st (σ' := [some (.ref d), some (.str z)]) rfl ?_
    repeat walk_at "W"
    intro T hT
    have sT := Wp.same_upd (o := .tup [.str z, .bl false]) hT
    have eT := upd_same (H := H) (a := T) (o := .tup [.str z, .bl false])
    generalize upd H T (.tup [.str z, .bl false]) = H1 at sT eT ⊢
    repeat walk_at "W"
    intro L hL
    have sL := Wp.same_upd (o := .lst [.ref T]) hL
    repeat walk_at "W"
    exact ⟨d, L, T, rs, z, rfl, upd_same, sL _ _ eT, hR.same (sT.trans sL), hg, hz, fun H' s1 => q H' ((sT.trans sL).trans s1)⟩
end
end K09
set_option Elab.async false
set_option linter.all false
set_option maxRecDepth 100000
set_option maxHeartbeats 8000000
namespace K09
open PySem PySem.Spec PyProof.Rows L2 Bk
open Wp (wo_lt wo_le wo_gt wo_ge wo_eq wo_ne wo_in wo_nin wo_add wo_mul op_shlB ws_any wc_int wc_isi u65)
abbrev s_used : Stmt := topS 41
abbrev N_used : List Str := ["rules", "text", "place", "number", "left", "right"]
theorem sc_used : FnScope N_used ["rules", "text", "place", "number"] (defScope s_used) := ⟨rfl, rfl, rfl, by decide +kernel, rfl, by decide +kernel, by decide +kernel⟩
abbrev s_overlap_text : Stmt := topS 42
abbrev N_overlap_text : List Str := ["left", "place", "other", "both"]
theorem sc_overlap_text : FnScope N_overlap_text ["left", "place", "other"] (defScope s_overlap_text) := ⟨rfl, rfl, rfl, by decide +kernel, rfl, by decide +kernel, by decide +kernel⟩
abbrev s_overlaps_of : Stmt := topS 43
abbrev N_overlaps_of : List Str := ["rules", "found", "one", "left", "_", "other", "right", "place", "text"]
theorem sc_overlaps_of : FnScope N_overlaps_of ["rules"] (defScope s_overlaps_of) := ⟨rfl, rfl, rfl, by decide +kernel, rfl, by decide +kernel, by decide +kernel⟩
local macro_rules | `(tactic| walk_at "W") => `(tactic| first
  | (with_reducible first
    | refine Wp.seq ?_ | refine Wp.asg ?_ | refine Wp.ret ?_ | refine Wp.retN ?_ | refine Wp.drop ?_ | refine Wp.nxt ?_ | refine Wp.ifs ?_ | refine Wp.gname ?_
    | refine Wp.op ?_ | refine Wp.un ?_ | refine Wp.tst ?_ | refine Wp.tb' ?_ | refine Wp.tnot ?_ | refine Wp.tand ?_ | refine Wp.tor ?_ | refine Wp.tandV ?_ | refine Wp.torV ?_ | refine Wp.tnotV ?_ | refine Wp.tif ?_ | refine Wp.tchain ?_
    | refine Wp.cb ?_ | refine Wp.call ?_ | refine Wp.cons ?_ | refine Wp.nil ?_ | refine Wp.gsub ?_ | refine Wp.cst ?_ | refine Wp.i0 ?_ | refine Wp.int1 ?_ | refine Wp.eb ?_ | refine Wp.ei ?_
    | refine Wp.gnil ?_ | refine Wp.gcons ?_ | refine Wp.mko ?_ | refine Wp.bm ?_ | refine Wp.ienum ?_ | refine Wp.tru ?_ | refine Wp.u1 ?_ | refine Wp.for_ ?_ | refine Wp.lc ?_ | refine Wp.istr ?_ | refine Wp.ilist ?_ | refine Wp.itup ?_ | refine Wp.irng1 ?_ | refine Wp.irng2 ?_ | refine Wp.yes ?_ | refine Wp.es ?_ | refine Wp.er ?_ | refine Wp.sl ?_ | refine Wp.nopart ?_ | refine Wp.part ?_ | refine Wp.lst ?_ | refine Wp.tup ?_
    | refine Wp.din ?_ | refine Wp.dnotin ?_ | refine Wp.dget ?_ | refine Wp.dget2 ?_ | refine Wp.dput ?_ | refine Wp.dnewK ?_ | refine Wp.dnewT ?_ | refine Wp.bm0 ?_ | refine Wp.m1 ?_ | refine Wp.exs ?_ | refine Wp.is0 ?_ | refine Wp.isnot0 ?_ | refine Wp.fld ?_ | refine Wp.sfld ?_
    | refine Wp.par ?_ | refine Wp.parV ?_ | refine Wp.brk ?_ | refine Wp.aug ?_ | refine Wp.ipaI ?_ | refine Wp.ipsI ?_ | refine Bk.ienumS ?_ | refine Wp.make_ ?_ | refine Wp.itnn ?_ | refine Wp.ltI ?_ | refine Wp.leI ?_ | refine Wp.leS ?_ | refine Wp.inSg ?_ | refine Wp.gtI ?_ | refine Wp.geI ?_ | refine Wp.eqI ?_ | refine Wp.neI ?_ | refine Wp.addI ?_ | refine Wp.ltS ?_ | refine Wp.eqS ?_ | refine Wp.neS ?_)
  | ((with_reducible refine' Wp.var ?hv ?_); (case hv => exact rfl))
  | ((with_reducible refine' Wp.ixl ?hs ?he ?_); (case hs => first | exact SqL.of upd_same | exact SqL.of (by assumption) | assumption); (case he => exact rfl))
  | ((with_reducible refine' Wp.setl ?hs ?he ?_); (case hs => first | exact upd_same | assumption); (case he => exact rfl))
  | ((with_reducible refine' Wp.modP ?hs ?_); (case hs => first | decide | omega))
  | ((with_reducible refine' Wp.divN ?hs ?ht ?_); (case hs => first | decide | omega); (case ht => first | decide | omega))
  | ((with_reducible refine' Wp.mulM ?hs ?ht ?_); (case hs => decide); (case ht => decide))
  | ((with_reducible refine' Wp.mulL ?hs ?_); (case hs => omega))
  | ((with_reducible refine' Wp.mulR ?hs ?_); (case hs => omega))
  | ((with_reducible refine' Wp.powS ?hs ?_); (case hs => decide))
  | ((with_reducible refine' Wp.shr ?hs ?_); (case hs => decide))
  | ((with_reducible refine' Wp.szl ?hs ?_); (case hs => first | decide | (simp; done)))
  | ((with_reducible refine' Wp.lenL ?hs ?_); (case hs => first | exact SqL.of upd_same | exact SqL.of (by assumption) | assumption))
  | ((with_reducible refine' Wp.lenT ?hs ?_); (case hs => first | exact SqT.of upd_same | exact SqT.of (by assumption) | assumption))
  | ((with_reducible refine' Wp.iteC ?hs ?_); (case hs => exact rfl)) | ((with_reducible refine' Wp.iteD ?hs ?_); (case hs => exact Bool.false_ne_true))
  | ((with_reducible refine' Wp.wp ?hs ?_); (case hs => rfl))
  | (with_reducible first | refine Wp.abs ?_ | refine Wp.max2 ?_ | refine Wp.min2 ?_)
  | ((with_reducible refine' Wp.sll ?hs ?_); (case hs => first | exact SqL.of upd_same | exact SqL.of (by assumption) | assumption)))
local macro_rules | `(tactic| walk_at "KQ") => `(tactic| first
  | exact Wp.kq "int" rfl (by decide +kernel) | exact Wp.kq "bool" rfl (by decide +kernel) | exact Wp.kq "str" rfl (by decide +kernel) | exact Wp.kq "list" rfl (by decide +kernel)
  | exact Wp.kq "tuple" rfl (by decide +kernel) | exact Wp.kq "NoneType" rfl (by decide +kernel) | exact Wp.kq "dict" rfl (by decide +kernel))

section
variable {P : Program} {w : World} {K : PySem.W.Frag} {mg : Str → Option Value} {base : Heap}
def spUsed : Sp := fun vs H Q _ => ∃ t bs rs z place n l r, vs = [.ref t, .str z, .int place, .int (n : Nat)] ∧ H t = some (.tup (bs.map V.ref)) ∧ RulesAt H bs rs ∧ rs[n]? = some (l, r) ∧ z.length ≤ 1000 ∧ l.length ≤ 4 ∧ r.length ≤ 1 ∧ Q (.str (usedS z place l r)) H
theorem ok_used (B : Wp.Blt mg) {f : Addr} {fd : FuncData} (F : Fun K "used" "used" s_used f fd) : FnOk P w K mg base CX0 1 f fd ["rules", "text", "place", "number"] spUsed := by
  refine F.ok sc_used (fun vs H Q E h => ?_) (fun cdv A outer s H vs Q E hr h => ?_)
  · obtain ⟨t, bs, rs, z, place, n, l, r, rfl, _⟩ := h
    rfl
  · obtain ⟨t, bs, rs, z, place, n, l, r, rfl, ht, hb, hn, hz, hl, hr1, q⟩ := h
    refine ⟨_, (pss_cons (ps_asg (pe_ix (Wp.wx_seq (K := K)) (pv 0) (pv 3) (fun _ _ => rfl)) (Wp.wg_tup (K := K) (n := 2) rfl (pgs_cons (pg_name (i := 4) sc_used.nd rfl (by first | exact .inl rfl | exact .inr rfl)) (pgs_cons (pg_name (i := 5) sc_used.nd rfl (by first | exact .inl rfl | exact .inr rfl)) pgs_nil))))
  (pss_one (ps_ret (pe_op (wo_add (K := K)) (pe_op (wo_add (K := K)) (pe_slice (ws_any (K := K)) (pv 1) po_none (po_some (pv 2))) (pv 5)) (pe_slice (ws_any (K := K)) (pv 1) (po_some (pe_op (wo_add (K := K)) (pv 2) (pe_callB (Wp.wc_len (K := K)) (by rfl) B.len (by decide +kernel) (pa_cons (pv 4) pa_nil)))) po_none))))), ?_⟩
    refine Wp.st (σ' := [some (.ref t), some (.str z), some (.int place), some (.int (n : Nat)), none, none]) rfl ?_
    obtain ⟨b, hb1, hb2⟩ := hb.get hn
    replace hb2 : H b = some (.tup [.str l, .str r]) := hb2
    have e : atI (bs.map V.ref) ((n : Nat) : Int) = some (.ref b) := atI_nat (by rw [List.getElem?_map, hb1]; rfl)
    repeat walk_at "W"
    refine Wp.ixt (SqT.of ht) e ?_
    repeat walk_at "W"
    refine Wp.gt (SqT.of hb2) rfl ?_
    repeat walk_at "W"
    refine sls hz ?_
    repeat walk_at "W"
    have c1 := cutS_le z none (some place)
    have hbig : (1000000 : Nat) < sizeLine := by decide
    refine Wp.addS (by omega) ?_
    repeat walk_at "W"
    refine Wp.lenS (by omega) ?_
    repeat walk_at "W"
    refine sls hz ?_
    have c2 := cutS_le z (some (place + (l.length : Nat))) none
    have c3 := len_app (cutS z none (some place)) r
    refine Wp.addS (by omega) ?_
    repeat walk_at "W"
    exact q
def spOvt : Sp := fun vs H Q _ => ∃ l p o, vs = [.str l, .int p, .str o] ∧ l.length ≤ 1000 ∧ o.length ≤ 1000 ∧ (ovText l p o = none → Q .non H) ∧ (∀ z, ovText l p o = some z → Q (.str z) H)
theorem ok_ovt (B : Wp.Blt mg) {f : Addr} {fd : FuncData} (F : Fun K "overlap_text" "overlap_text" s_overlap_text f fd) : FnOk P w K mg base CX0 1 f fd ["left", "place", "other"] spOvt := by
  refine F.ok sc_overlap_text (fun vs H Q E h => ?_) (fun cdv A outer s H vs Q E hr h => ?_)
  · obtain ⟨l, p, o, rfl, _⟩ := h
    rfl
  · obtain ⟨l, p, o, rfl, hl, ho, q1, q2⟩ := h
    refine ⟨_, (pss_cons (ps_set (i := 3) sc_overlap_text.nd rfl (by first | exact .inl rfl | exact .inr rfl) (pe_callB (Wp.wc_min rfl) (by rfl) B.min (by decide +kernel) (pa_cons (pe_op op_sub (pe_callB (Wp.wc_len (K := K)) (by rfl) B.len (by decide +kernel) (pa_cons (pv 0) pa_nil)) (pv 1)) (pa_cons (pe_callB (Wp.wc_len (K := K)) (by rfl) B.len (by decide +kernel) (pa_cons (pv 2) pa_nil)) pa_nil))))
  (pss_cons (ps_if (pt_cmpR (wo_ne (K := K) hr.units) (pe_slice (ws_any (K := K)) (pv 0) (po_some (pv 1)) (po_some (pe_op (wo_add (K := K)) (pv 1) (pv 3)))) (pe_slice (ws_any (K := K)) (pv 2) po_none (po_some (pv 3))) (nomark _)) (pss_one (ps_ret pe_non)) pss_nil)
  (pss_one (ps_ret (pe_op (wo_add (K := K)) (pv 0) (pe_slice (ws_any (K := K)) (pv 2) (po_some (pv 3)) po_none)))))), ?_⟩
    refine Wp.st (σ' := [some (.str l), some (.int p), some (.str o), none]) rfl ?_
    have hbig : (1000000 : Nat) < sizeLine := by decide
    repeat walk_at "W"
    refine Wp.lenS (by omega) ?_
    repeat walk_at "W"
    refine Wp.lenS (by omega) ?_
    refine Wp.nil ?_
    refine Wp.min2 ?_
    generalize hbo : (if (o.length : Int) < (l.length : Int) - p then (o.length : Int) else (l.length : Int) - p) = both
    have hbo : bothOf l p o = both := hbo
    repeat walk_at "W"
    refine sls hl ?_
    repeat walk_at "W"
    refine sls ho ?_
    repeat walk_at "W"
    refine Wp.itn (fun e1 => ?_) (fun e1 => ?_)
    · repeat walk_at "W"
      refine q1 ?_
      unfold ovText; rw [hbo]; exact if_neg e1
    · repeat walk_at "W"
      refine sls ho ?_
      have := cutS_le o (some both) none
      refine Wp.addS (by omega) ?_
      repeat walk_at "W"
      refine q2 _ ?_
      unfold ovText; rw [hbo]; exact if_pos e1
end
end K09
set_option Elab.async false
set_option linter.all false
set_option maxRecDepth 100000
set_option maxHeartbeats 8000000
namespace K09
open PySem PySem.Spec PyProof.Rows L2 Bk
open Wp (wo_lt wo_le wo_gt wo_ge wo_eq wo_ne wo_in wo_nin wo_add wo_mul op_shlB ws_any wc_int wc_isi u65)
local macro_rules | `(tactic| walk_at "W") => `(tactic| first
  | (with_reducible first
    | refine Wp.seq ?_ | refine Wp.asg ?_ | refine Wp.ret ?_ | refine Wp.retN ?_ | refine Wp.drop ?_ | refine Wp.nxt ?_ | refine Wp.ifs ?_ | refine Wp.gname ?_
    | refine Wp.op ?_ | refine Wp.un ?_ | refine Wp.tst ?_ | refine Wp.tb' ?_ | refine Wp.tnot ?_ | refine Wp.tand ?_ | refine Wp.tor ?_ | refine Wp.tandV ?_ | refine Wp.torV ?_ | refine Wp.tnotV ?_ | refine Wp.tif ?_ | refine Wp.tchain ?_
    | refine Wp.cb ?_ | refine Wp.call ?_ | refine Wp.cons ?_ | refine Wp.nil ?_ | refine Wp.gsub ?_ | refine Wp.cst ?_ | refine Wp.i0 ?_ | refine Wp.int1 ?_ | refine Wp.eb ?_ | refine Wp.ei ?_
    | refine Wp.gnil ?_ | refine Wp.gcons ?_ | refine Wp.mko ?_ | refine Wp.bm ?_ | refine Wp.ienum ?_ | refine Wp.tru ?_ | refine Wp.u1 ?_ | refine Wp.for_ ?_ | refine Wp.lc ?_ | refine Wp.istr ?_ | refine Wp.ilist ?_ | refine Wp.itup ?_ | refine Wp.irng1 ?_ | refine Wp.irng2 ?_ | refine Wp.yes ?_ | refine Wp.es ?_ | refine Wp.er ?_ | refine Wp.sl ?_ | refine Wp.nopart ?_ | refine Wp.part ?_ | refine Wp.lst ?_ | refine Wp.tup ?_
    | refine Wp.din ?_ | refine Wp.dnotin ?_ | refine Wp.dget ?_ | refine Wp.dget2 ?_ | refine Wp.dput ?_ | refine Wp.dnewK ?_ | refine Wp.dnewT ?_ | refine Wp.bm0 ?_ | refine Wp.m1 ?_ | refine Wp.exs ?_ | refine Wp.is0 ?_ | refine Wp.isnot0 ?_ | refine Wp.fld ?_ | refine Wp.sfld ?_
    | refine Wp.par ?_ | refine Wp.parV ?_ | refine Wp.brk ?_ | refine Wp.aug ?_ | refine Wp.ipaI ?_ | refine Wp.ipsI ?_ | refine Bk.ienumS ?_ | refine Wp.make_ ?_ | refine Wp.itnn ?_ | refine Wp.ltI ?_ | refine Wp.leI ?_ | refine Wp.leS ?_ | refine Wp.inSg ?_ | refine Wp.gtI ?_ | refine Wp.geI ?_ | refine Wp.eqI ?_ | refine Wp.neI ?_ | refine Wp.addI ?_ | refine Wp.ltS ?_ | refine Wp.eqS ?_ | refine Wp.neS ?_)
  | ((with_reducible refine' Wp.var ?hv ?_); (case hv => exact rfl))
  | ((with_reducible refine' Wp.ixl ?hs ?he ?_); (case hs => first | exact SqL.of upd_same | exact SqL.of (by assumption) | assumption); (case he => exact rfl))
  | ((with_reducible refine' Wp.setl ?hs ?he ?_); (case hs => first | exact upd_same | assumption); (case he => exact rfl))
  | ((with_reducible refine' Wp.modP ?hs ?_); (case hs => first | decide | omega))
  | ((with_reducible refine' Wp.divN ?hs ?ht ?_); (case hs => first | decide | omega); (case ht => first | decide | omega))
  | ((with_reducible refine' Wp.mulM ?hs ?ht ?_); (case hs => decide); (case ht => decide))
  | ((with_reducible refine' Wp.mulL ?hs ?_); (case hs => omega))
  | ((with_reducible refine' Wp.mulR ?hs ?_); (case hs => omega))
  | ((with_reducible refine' Wp.powS ?hs ?_); (case hs => decide))
  | ((with_reducible refine' Wp.shr ?hs ?_); (case hs => decide))
  | ((with_reducible refine' Wp.szl ?hs ?_); (case hs => first | decide | (simp; done)))
  | ((with_reducible refine' Wp.lenL ?hs ?_); (case hs => first | exact SqL.of upd_same | exact SqL.of (by assumption) | assumption))
  | ((with_reducible refine' Wp.lenT ?hs ?_); (case hs => first | exact SqT.of upd_same | exact SqT.of (by assumption) | assumption))
  | ((with_reducible refine' Wp.iteC ?hs ?_); (case hs => exact rfl)) | ((with_reducible refine' Wp.iteD ?hs ?_); (case hs => exact Bool.false_ne_true))
  | ((with_reducible refine' Wp.wp ?hs ?_); (case hs => rfl))
  | (with_reducible first | refine Wp.abs ?_ | refine Wp.max2 ?_ | refine Wp.min2 ?_)
  | ((with_reducible refine' Wp.sll ?hs ?_); (case hs => first | exact SqL.of upd_same | exact SqL.of (by assumption) | assumption)))
local macro_rules | `(tactic| walk_at "KQ") => `(tactic| first
  | exact Wp.kq "int" rfl (by decide +kernel) | exact Wp.kq "bool" rfl (by decide +kernel) | exact Wp.kq "str" rfl (by decide +kernel) | exact Wp.kq "list" rfl (by decide +kernel)
  | exact Wp.kq "tuple" rfl (by decide +kernel) | exact Wp.kq "NoneType" rfl (by decide +kernel) | exact Wp.kq "dict" rfl (by decide +kernel))

section
variable {P : Program} {w : World} {K : PySem.W.Frag} {mg : Str → Option Value} {base : Heap}
def spOvS (K : PySem.W.Frag) : Sp := fun vs H Q _ => ∃ t bs rs, vs = [.ref t] ∧ H t = some (.tup (bs.map V.ref)) ∧ RulesAt H bs rs ∧ rs.length ≤ 64 ∧ Good rs ∧
  ∀ H' t2 (ws : List V) (os : List Ov), Same H H' → H' t2 = some (.tup ws) → OvSorted os (ovAll rs) → OvsAt H' ws os → (∀ o ∈ os, ovOk rs.length o) → Q (.ref t2) H'
theorem ok_ovS (B : Wp.Blt mg) {f fO : Addr} {fd fdO : FuncData} (F : Fun K "overlaps_of" "overlaps_of" s_overlaps_of f fd)
    (D_overlap_text : Wp.Dh K mg "overlap_text" fO fdO ["left", "place", "other"]) (G_overlap_text : FnOk P w K mg base CX0 1 fO fdO ["left", "place", "other"] spOvt) : FnOk P w K mg base CX0 2 f fd ["rules"] (spOvS K) := by
  refine F.ok sc_overlaps_of (fun vs H Q E h => ?_) (fun cdv A outer s H vs Q E hr h => ?_)
  · obtain ⟨t, bs, rs, rfl, _⟩ := h
    rfl
  · obtain ⟨t, bs, rs, rfl, ht, hb, hl, hg, q⟩ := h
    refine ⟨_, (pss_cons (ps_set (i := 1) sc_overlaps_of.nd rfl (by first | exact .inl rfl | exact .inr rfl) (pe_lst pa_nil))
  (pss_cons (ps_for PassesOwn.never rfl (Wp.wi_enum (K := K) (by rfl) B.enumerate (pa_cons (pv 0) pa_nil)) (Wp.wg_tup (K := K) (n := 2) rfl (pgs_cons (pg_name (i := 2) sc_overlaps_of.nd rfl (by first | exact .inl rfl | exact .inr rfl)) (pgs_cons (Wp.wg_tup (K := K) (n := 2) rfl (pgs_cons (pg_name (i := 3) sc_overlaps_of.nd rfl (by first | exact .inl rfl | exact .inr rfl)) (pgs_cons (pg_name (i := 4) sc_overlaps_of.nd rfl (by first | exact .inl rfl | exact .inr rfl)) pgs_nil))) pgs_nil))) (pss_one (ps_for PassesOwn.never rfl (Wp.wi_enum (K := K) (by rfl) B.enumerate (pa_cons (pv 0) pa_nil)) (Wp.wg_tup (K := K) (n := 2) rfl (pgs_cons (pg_name (i := 5) sc_overlaps_of.nd rfl (by first | exact .inl rfl | exact .inr rfl)) (pgs_cons (Wp.wg_tup (K := K) (n := 2) rfl (pgs_cons (pg_name (i := 6) sc_overlaps_of.nd rfl (by first | exact .inl rfl | exact .inr rfl)) (pgs_cons (pg_name (i := 4) sc_overlaps_of.nd rfl (by first | exact .inl rfl | exact .inr rfl)) pgs_nil))) pgs_nil))) (pss_one (ps_for PassesOwn.never rfl (pi_range2 (by rfl) B.range (pa_cons (pe_ifExp (pt_cmpR wo_lt (pv 2) (pv 5) (nomark _)) pe_int pe_int) (pa_cons (pe_callB (Wp.wc_len (K := K)) (by rfl) B.len (by decide +kernel) (pa_cons (pv 3) pa_nil)) pa_nil))) (pg_name (i := 7) sc_overlaps_of.nd rfl (by first | exact .inl rfl | exact .inr rfl)) (pss_cons (ps_set (i := 8) sc_overlaps_of.nd rfl (by first | exact .inl rfl | exact .inr rfl) (pe_call G_overlap_text (hr.mono (by decide)) (by rfl) D_overlap_text.g D_overlap_text.k D_overlap_text.b .nil pass0 (pa_cons (pv 3) (pa_cons (pv 7) (pa_cons (pv 6) pa_nil)))))
  (pss_one (ps_if (pt_cmpR Wp.wo_isnot (pv 8) pe_non (nomark _)) (pss_one (ps_expr (Wp.wbm (K := K) (pe_bm PySem.F.plainAttrs_list PySem.F.slot_list_append PySem.F.type_list_append mt_append (pv 1) (pa_cons (pe_tup (pa_cons (pe_callB (Wp.wc_len (K := K)) (by rfl) B.len (by decide +kernel) (pa_cons (pv 8) pa_nil)) (pa_cons (pv 8) (pa_cons (pv 2) (pa_cons (pv 7) (pa_cons (pv 5) pa_nil)))))) pa_nil))))) pss_nil))))))))
  (pss_one (ps_ret (pe_callTy (Wp.wc_tuple (K := K)) (by rfl) B.tuple (by decide +kernel) (pa_cons (pe_lc (own := [("_", 4), ("text", 8), ("one", 2), ("place", 7), ("other", 5)]) (g := (Wp.gTupU K 5 (gCons (gName 4) (gCons (gName 8) (gCons (gName 2) (gCons (gName 7) (gCons (gName 5) gNil))))))) (by rfl) sc_overlaps_of.nd (Wp.wi_list (K := K) (pe_callB (Wp.wc_sorted (K := K) (u65 hr)) (by rfl) B.sorted (by decide +kernel) (pa_cons (pv 1) pa_nil))) (blkOk_by (own := [("_", 4), ("text", 8), ("one", 2), ("place", 7), ("other", 5)]) (N := N_overlaps_of) (sc := defScope s_overlaps_of) (by decide +kernel)) (fun _ _ _ _ _ => Wp.wg_tup (K := K) (n := 5) rfl (pgs_cons (pg_name (i := 4) sc_overlaps_of.nd rfl (Or.inl rfl)) (pgs_cons (pg_name (i := 8) sc_overlaps_of.nd rfl (Or.inl rfl)) (pgs_cons (pg_name (i := 2) sc_overlaps_of.nd rfl (Or.inl rfl)) (pgs_cons (pg_name (i := 7) sc_overlaps_of.nd rfl (Or.inl rfl)) (pgs_cons (pg_name (i := 5) sc_overlaps_of.nd rfl (Or.inl rfl)) pgs_nil)))))) (fun _ _ _ _ _ => pts_nil) (fun _ _ _ _ _ => (pe_tup (pa_cons (pv 8) (pa_cons (pv 2) (pa_cons (pv 7) (pa_cons (pv 5) pa_nil))))))) pa_nil)))))), ?_⟩
    refine Wp.st (σ' := [some (.ref t), none, none, none, none, none, none, none, none]) rfl ?_
    have hbl := hb.len
    have hbig : (1000000 : Nat) < sizeLine := by decide
    repeat walk_at "W"
    intro F hF
    have sF := Wp.same_upd (o := .lst []) hF
    have upF : ∀ {G : Hp} (o : HO), Same H G → Same H (upd G F o) := fun o s b u e => by rw [upd_ne (ne_of_none e hF)]; exact s _ _ e
    repeat walk_at "W"
    refine ⟨t, bs.map V.ref, rfl, Wp.enumU (.inr (SqT.of ht)) sF (fun i σ1 H1 => ∃ x2 x3 x4 x5 x6 x7 x8, σ1 = [some (.ref t), some (.ref F), x2, x3, x4, x5, x6, x7, x8] ∧ Same H H1 ∧ FoundE K H1 F rs.length (ovTo rs i) (i * 256)) ⟨_, _, _, _, _, _, _, rfl, sF, ⟨[], upd_same, .nil, (fun _ z => nomatch z), Nat.zero_le _⟩⟩ (fun i σ1 H1 ⟨_, _, _, _, _, _, _, _, h, _⟩ => h) ?_ ?_⟩
    · rintro i x σ1 H1 T hx ⟨x2, x3, x4, x5, x6, x7, x8, rfl, s1, hFo⟩ hT
      obtain ⟨b, ⟨l, r⟩, rfl, hp, hbt⟩ := rulesAt_take hb hx
      replace hbt : H b = some (.tup [.str l, .str r]) := hbt
      have smT := Wp.same_upd (p := T) (o := .tup [.int (i : Nat), .ref b]) hT
      have sT := s1.trans smT
      have hi := (List.getElem?_eq_some_iff.mp hp).1
      obtain ⟨gl, gr, gt⟩ := hg _ (List.mem_of_getElem? hp)
      simp only at gl gr gt
      have hFo := hFo.same smT
      refine Wp.gt (SqT.of upd_same) rfl ?_
      repeat walk_at "W"
      refine Wp.gt (SqT.of (sT _ _ hbt)) rfl ?_
      repeat walk_at "W"
      refine ⟨t, bs.map V.ref, rfl, Wp.enumU (.inr (SqT.of ht)) sT (fun j σ2 H2 => ∃ x4 x5 x6 x7 x8, σ2 = [some (.ref t), some (.ref F), some (.int (i : Nat)), some (.str l), x4, x5, x6, x7, x8] ∧ Same H H2 ∧ FoundE K H2 F rs.length (ovTo rs i ++ ovRowTo rs i j) (i * 256 + j * 4)) ⟨_, _, _, _, _, rfl, sT, by simpa [ovRowTo] using hFo⟩ (fun j σ2 H2 ⟨_, _, _, _, _, _, h, _⟩ => h) ?_ ?_⟩
      · rintro j y σ2 H2 T2 hy ⟨y4, y5, y6, y7, y8, rfl, s2, hFo⟩ hT2
        obtain ⟨b2, ⟨l2, r2⟩, rfl, hp2, hbt2⟩ := rulesAt_take hb hy
        replace hbt2 : H b2 = some (.tup [.str l2, .str r2]) := hbt2
        have smT2 := Wp.same_upd (p := T2) (o := .tup [.int (j : Nat), .ref b2]) hT2
        have sT2 := s2.trans smT2
        have hj := (List.getElem?_eq_some_iff.mp hp2).1
        obtain ⟨gl2, gr2, gt2⟩ := hg _ (List.mem_of_getElem? hp2)
        simp only at gl2 gr2 gt2
        have hFo := hFo.same smT2
        refine Wp.gt (SqT.of upd_same) rfl ?_
        repeat walk_at "W"
        refine Wp.gt (SqT.of (sT2 _ _ hbt2)) rfl ?_
        repeat walk_at "W"
        refine Wp.itd (fun e1 => ?_) (fun e1 => ?_)
        all_goals
          repeat walk_at "W"
          refine Wp.lenS (by omega) ?_
          repeat walk_at "W"
          refine ⟨_, _, rfl, ⟨by omega, by omega, by omega, by omega⟩, ?_⟩
          refine Wp.forIt walk_range (fun k σ3 H3 => ∃ y7 y8, σ3 = [some (.ref t), some (.ref F), some (.int (i : Nat)), some (.str l), some (.str r2), some (.int (j : Nat)), some (.str l2), y7, y8] ∧ Same H H3 ∧ FoundE K H3 F rs.length (ovTo rs i ++ ovRowTo rs i j ++ ovCellTo i j l l2 k) (i * 256 + j * 4 + k)) ⟨_, _, rfl, sT2, by simpa [ovCellTo] using hFo⟩ (fun _ _ _ _ _ => trivial) ?_ ?_
          · rintro k v σ3 H3 H3' hk ⟨z7, z8, rfl, s3, hFo3⟩ ⟨rfl, hv⟩
            obtain ⟨pl, hpl, hpl3, hst⟩ : ∃ pl : Nat, v = .int (pl : Nat) ∧ pl ≤ 3 ∧ pl = ovStart i j + k := by
              first
              | exact ⟨k, by rw [hv]; exact congrArg V.int (by omega), by omega, by unfold ovStart; rw [if_pos (by omega)]; omega⟩
              | exact ⟨k + 1, by rw [hv]; exact congrArg V.int (by omega), by omega, by unfold ovStart; rw [if_neg (by omega)]; omega⟩
            subst hpl
            obtain ⟨ws, f1, f2, f3, f4⟩ := hFo3.ex
            repeat walk_at "W"
            refine ⟨l, (pl : Nat), l2, rfl, by omega, by omega, fun e => ?_, fun z e => ?_⟩
            · repeat walk_at "W"
              refine ⟨_, _, rfl, s3, ?_⟩
              rw [ovCellTo_none (by rw [← hst]; exact e), ← List.append_assoc, List.append_nil]
              exact hFo3.mono (by omega)
            · have hzl := ovText_le e
              repeat walk_at "W"
              refine Wp.tyl f1 ?_
              repeat walk_at "W"
              refine Wp.lenS (by omega) ?_
              repeat walk_at "W"
              intro T3 hT3
              have u3 := Wp.same_upd (o := .tup [.int (z.length : Nat), .str z, .int (i : Nat), .int (pl : Nat), .int (j : Nat)]) hT3
              repeat walk_at "W"
              have hwl := Wp.dps_len f2
              rw [List.length_map] at hwl
              refine Wp.app (u3 _ _ f1) (by omega) ?_
              repeat walk_at "W"
              refine ⟨_, _, rfl, upF _ (s3.trans u3), ?_⟩
              rw [ovCellTo_some (by rw [← hst]; exact e), ← List.append_assoc, ← hst]
              have := FoundE.push (o := (z, i, pl, j)) (n := rs.length) (u3 _ _ f1) (Wp.dps_same u3 _ _ f2) f3 f4 ⟨by show z.length ≤ 8; omega, hi, hpl3, hj⟩ (.tup (SqT.of upd_same) (.cons (.int _) (.cons (.str _) (.cons (.int _) (.cons (.int _) (.cons (.int _) .nil))))))
              exact this.mono (by omega)
          · rintro σ3 H3 ⟨z7, z8, rfl, s3, hFo3⟩
            refine ⟨_, _, _, _, _, rfl, s3, ?_⟩
            rw [ovRowTo_succ hp hp2, ← List.append_assoc]
            obtain ⟨n9, en, h9⟩ : ∃ n : Nat, n = l.length - ovStart i j ∧ FoundE K H3 F rs.length (ovTo rs i ++ ovRowTo rs i j ++ ovCellTo i j l l2 n) (i * 256 + j * 4 + n) := by
              first
              | exact ⟨_, by unfold ovStart; rw [if_pos (by omega)]; omega, hFo3⟩
              | exact ⟨_, by unfold ovStart; rw [if_neg (by omega)]; omega, hFo3⟩
            rw [en] at h9
            exact h9.mono (by omega)
      · rintro σ2 H2 ⟨y4, y5, y6, y7, y8, rfl, s2, hFo⟩
        rw [List.length_map, hbl] at hFo
        refine ⟨_, _, _, _, _, _, _, rfl, s2, ?_⟩
        rw [ovTo_succ]
        exact hFo.mono (by omega)
    · rintro σ1 H1 ⟨x2, x3, x4, x5, x6, x7, x8, rfl, s1, hFo⟩
      rw [List.length_map, hbl] at hFo
      obtain ⟨ws, f1, f2, f3, f4⟩ := hFo.ex
      change DpAll K H1 ws ((ovAll rs).map ov5) at f2
      generalize hos : ovAll rs = os at f2
      change ∀ o ∈ ovAll rs, _ at f3
      change (ovAll rs).length ≤ _ at f4
      rw [hos] at f3 f4
      have hwl := Wp.dps_len f2
      rw [List.length_map] at hwl
      repeat walk_at "W"
      refine ⟨F, ws, os.map ov5, rfl, SqL.of f1, f2, ov5_alike os, ov5_sortable os, (fun d hd => by obtain ⟨o, _, rfl⟩ := List.mem_map.mp hd; exact ov5_depth o), fun zs p hperm hzs hp => ?_⟩
      have u1 := Wp.same_upd (o := .lst (zs.map (·.1))) hp
      have hzl : zs.length ≤ 20000 := by rw [hperm.length_eq, List.length_zip]; omega
      obtain ⟨hsrt, hse⟩ := OvSorted.of hwl hperm hzs
      generalize hos2 : (zs.map fun q => dec5 q.2) = os2 at hsrt hse
      have hl2 : os2.length = zs.length := by rw [← hos2, List.length_map]
      refine ⟨p, rfl, ⟨_, SqL.of upd_same⟩, fun A hA => ?_⟩
      have hAp : A ≠ p := fun z => by rw [z, upd_same] at hA; cases hA
      refine Wp.lcIt (walk_list (xs := zs.map (·.1))) (fun i H2 => Same (upd H1 p (.lst (zs.map (·.1)))) H2 ∧ ∃ ws' : List V, H2 A = some (.lst ws') ∧ ws'.length = i ∧ ∀ (k : Nat) (o : Ov), k < i → os2[k]? = some o → ∃ T : Addr, ws'[k]? = some (V.ref T) ∧ H2 T = some (.tup [.str o.1, .int (o.2.1 : Nat), .int (o.2.2.1 : Nat), .int (o.2.2.2 : Nat)])) ⟨Wp.same_upd hA, [], upd_same, rfl, fun k o h => by omega⟩ (fun i H2 _ h => SqL.of (h.1 _ _ upd_same)) ?_ ?_
      · rintro i x H2 H2' hi ⟨s2, ws', hw2, hll2, hw⟩ ⟨rfl, hx⟩
        rw [List.length_map] at hi
        rw [List.getElem?_map] at hx
        obtain ⟨qz, hqz, rfl⟩ := Option.map_eq_some_iff.mp hx
        have hmem := hperm.mem_iff.mp (List.mem_of_getElem? hqz)
        have hdq := Wp.dp_same (u1.trans s2) _ _ (dps_zip f2 _ hmem)
        obtain ⟨o, ho⟩ : ∃ o, os2[i]? = some o := ⟨_, List.getElem?_eq_getElem (show i < os2.length by omega)⟩
        have heq : ov5 o = qz.2 := by
          have h1 : (os2.map ov5)[i]? = some (ov5 o) := by rw [List.getElem?_map, ho]; rfl
          rw [hse, List.getElem?_map, hqz] at h1
          exact (Option.some.inj h1).symm
        rw [← heq] at hdq
        generalize qz.1 = xv at hdq ⊢
        cases hdq with
        | @tup a ys _ hs ha =>
        cases ha with
        | cons a1 ha =>
        cases ha with
        | cons a2 ha =>
        cases ha with
        | cons a3 ha =>
        cases ha with
        | cons a4 ha =>
        cases ha with
        | cons a5 ha =>
        cases ha; cases a1; cases a2; cases a3; cases a4; cases a5
        refine Wp.gt hs rfl ?_
        repeat walk_at "W"
        intro T hT
        have u2 := Wp.same_upd (o := .tup [.str o.1, .int (o.2.1 : Nat), .int (o.2.2.1 : Nat), .int (o.2.2.2 : Nat)]) hT
        have hTA : T ≠ A := fun z => by rw [z, hw2] at hT; cases hT
        repeat walk_at "W"
        refine ⟨ws', u2 _ _ hw2, by omega, fun b u e => ?_, _, upd_same, by rw [List.length_append, hll2]; rfl, fun k o' hk ho' => ?_⟩
        · rw [upd_ne (ne_of_none e hA)]; exact u2 _ _ (s2 _ _ e)
        · rcases (show k < i ∨ k = i by omega) with z | z
          · obtain ⟨T', e1, e3⟩ := hw k o' z ho'
            have h9 := u2 _ _ e3
            exact ⟨T', by rw [List.getElem?_append_left (by omega)]; exact e1, by rw [upd_ne (ne_of h9 (u2 _ _ hw2) (by intro z; cases z))]; exact h9⟩
          · subst z
            rw [ho] at ho'; cases ho'
            exact ⟨T, by rw [List.getElem?_append_right (by omega), hll2, Nat.sub_self]; rfl, by rw [upd_ne hTA]; exact upd_same⟩
      · rintro H2 ⟨s2, ws', hw2, hll2, hw⟩
        rw [List.length_map] at hll2 hw
        repeat walk_at "W"
        refine Wp.tupL (SqL.of hw2) fun t2 ht2 => ?_
        have u2 := Wp.same_upd (o := .tup ws') ht2
        rw [← hos] at hsrt f3
        refine q _ t2 ws' os2 (((s1.trans u1).trans s2).trans u2) upd_same hsrt ⟨by omega, fun k o ho => ?_⟩ (fun o ho => f3 o (hsrt.perm.mem_iff.mp ho))
        obtain ⟨T', e1, e3⟩ := hw k o (by have := (List.getElem?_eq_some_iff.mp ho).1; omega) ho
        exact ⟨T', e1, u2 _ _ e3⟩
end
end K09
set_option Elab.async false
set_option linter.all false
set_option maxRecDepth 100000
set_option maxHeartbeats 8000000
namespace K09
open PySem PySem.Spec PyProof.Rows L2 Bk
open Wp (Keep wo_lt wo_le wo_gt wo_ge wo_eq wo_ne wo_in wo_nin wo_add wo_mul op_shlB ws_any wc_int wc_isi u65)
abbrev s_quarrel_of : Stmt := topS 45
abbrev N_quarrel_of : List Str := ["rules", "rights", "over", "text", "one", "place", "other", "aims", "aim"]
theorem sc_quarrel_of : FnScope N_quarrel_of ["rules"] (defScope s_quarrel_of) := ⟨rfl, rfl, rfl, by decide +kernel, rfl, by decide +kernel, by decide +kernel⟩
abbrev s_Book___init__ : Stmt := inClass (topS 48) 0
abbrev N_Book___init__ : List Str := ["self", "signs", "rules"]
theorem sc_Book___init__ : FnScope N_Book___init__ ["self", "signs", "rules"] (defScope s_Book___init__) := ⟨rfl, rfl, rfl, by decide +kernel, rfl, by decide +kernel, by decide +kernel⟩
local macro_rules | `(tactic| walk_at "W") => `(tactic| first
  | (with_reducible first
    | refine Wp.seq ?_ | refine Wp.asg ?_ | refine Wp.ret ?_ | refine Wp.retN ?_ | refine Wp.drop ?_ | refine Wp.nxt ?_ | refine Wp.ifs ?_ | refine Wp.gname ?_
    | refine Wp.op ?_ | refine Wp.un ?_ | refine Wp.tst ?_ | refine Wp.tb' ?_ | refine Wp.tnot ?_ | refine Wp.tand ?_ | refine Wp.tor ?_ | refine Wp.tandV ?_ | refine Wp.torV ?_ | refine Wp.tnotV ?_ | refine Wp.tif ?_ | refine Wp.tchain ?_
    | refine Wp.cb ?_ | refine Wp.call ?_ | refine Wp.cons ?_ | refine Wp.nil ?_ | refine Wp.gsub ?_ | refine Wp.cst ?_ | refine Wp.i0 ?_ | refine Wp.int1 ?_ | refine Wp.eb ?_ | refine Wp.ei ?_
    | refine Wp.gnil ?_ | refine Wp.gcons ?_ | refine Wp.mko ?_ | refine Wp.bm ?_ | refine Wp.ienum ?_ | refine Wp.tru ?_ | refine Wp.u1 ?_ | refine Wp.for_ ?_ | refine Wp.lc ?_ | refine Wp.istr ?_ | refine Wp.ilist ?_ | refine Wp.itup ?_ | refine Wp.irng1 ?_ | refine Wp.irng2 ?_ | refine Wp.yes ?_ | refine Wp.es ?_ | refine Wp.er ?_ | refine Wp.sl ?_ | refine Wp.nopart ?_ | refine Wp.part ?_ | refine Wp.lst ?_ | refine Wp.tup ?_
    | refine Wp.din ?_ | refine Wp.dnotin ?_ | refine Wp.dget ?_ | refine Wp.dget2 ?_ | refine Wp.dput ?_ | refine Wp.dnewK ?_ | refine Wp.dnewT ?_ | refine Wp.bm0 ?_ | refine Wp.m1 ?_ | refine Wp.exs ?_ | refine Wp.is0 ?_ | refine Wp.isnot0 ?_ | refine Wp.fld ?_ | refine Wp.sfld ?_
    | refine Wp.par ?_ | refine Wp.parV ?_ | refine Wp.brk ?_ | refine Wp.aug ?_ | refine Wp.ipaI ?_ | refine Wp.ipsI ?_ | refine Bk.ienumS ?_ | refine Wp.make_ ?_ | refine Wp.itnn ?_ | refine Wp.ltI ?_ | refine Wp.leI ?_ | refine Wp.leS ?_ | refine Wp.inSg ?_ | refine Wp.gtI ?_ | refine Wp.geI ?_ | refine Wp.eqI ?_ | refine Wp.neI ?_ | refine Wp.addI ?_ | refine Wp.ltS ?_ | refine Wp.eqS ?_ | refine Wp.neS ?_)
  | ((with_reducible refine' Wp.var ?hv ?_); (case hv => exact rfl))
  | ((with_reducible refine' Wp.ixl ?hs ?he ?_); (case hs => first | exact SqL.of upd_same | exact SqL.of (by assumption) | assumption); (case he => exact rfl))
  | ((with_reducible refine' Wp.setl ?hs ?he ?_); (case hs => first | exact upd_same | assumption); (case he => exact rfl))
  | ((with_reducible refine' Wp.modP ?hs ?_); (case hs => first | decide | omega))
  | ((with_reducible refine' Wp.divN ?hs ?ht ?_); (case hs => first | decide | omega); (case ht => first | decide | omega))
  | ((with_reducible refine' Wp.mulM ?hs ?ht ?_); (case hs => decide); (case ht => decide))
  | ((with_reducible refine' Wp.mulL ?hs ?_); (case hs => omega))
  | ((with_reducible refine' Wp.mulR ?hs ?_); (case hs => omega))
  | ((with_reducible refine' Wp.powS ?hs ?_); (case hs => decide))
  | ((with_reducible refine' Wp.shr ?hs ?_); (case hs => decide))
  | ((with_reducible refine' Wp.szl ?hs ?_); (case hs => first | decide | (simp; done)))
  | ((with_reducible refine' Wp.lenL ?hs ?_); (case hs => first | exact SqL.of upd_same | exact SqL.of (by assumption) | assumption))
  | ((with_reducible refine' Wp.lenT ?hs ?_); (case hs => first | exact SqT.of upd_same | exact SqT.of (by assumption) | assumption))
  | ((with_reducible refine' Wp.iteC ?hs ?_); (case hs => exact rfl)) | ((with_reducible refine' Wp.iteD ?hs ?_); (case hs => exact Bool.false_ne_true))
  | ((with_reducible refine' Wp.wp ?hs ?_); (case hs => rfl))
  | (with_reducible first | refine Wp.abs ?_ | refine Wp.max2 ?_ | refine Wp.min2 ?_)
  | ((with_reducible refine' Wp.sll ?hs ?_); (case hs => first | exact SqL.of upd_same | exact SqL.of (by assumption) | assumption)))
local macro_rules | `(tactic| walk_at "KQ") => `(tactic| first
  | exact Wp.kq "int" rfl (by decide +kernel) | exact Wp.kq "bool" rfl (by decide +kernel) | exact Wp.kq "str" rfl (by decide +kernel) | exact Wp.kq "list" rfl (by decide +kernel)
  | exact Wp.kq "tuple" rfl (by decide +kernel) | exact Wp.kq "NoneType" rfl (by decide +kernel) | exact Wp.kq "dict" rfl (by decide +kernel))

section
variable {P : Program} {w : World} {K : PySem.W.Frag} {mg : Str → Option Value} {base : Heap}
def spQuarS : Sp := fun vs H Q _ => ∃ t bs rs, vs = [.ref t] ∧ H t = some (.tup (bs.map V.ref)) ∧ RulesAt H bs rs ∧ rs.length ≤ 64 ∧ Good rs ∧
  ∀ H' v os, Same H H' → OvSorted os (ovAll rs) → QuarAt rs os v → Q v H'
theorem ok_quarS (B : Wp.Blt mg) {f fR fO fU fL : Addr} {fd fdR fdO fdU fdL : FuncData} (F : Fun K "quarrel_of" "quarrel_of" s_quarrel_of f fd)
    (D_first_rights : Wp.Dh K mg "first_rights" fR fdR ["rules"]) (G_first_rights : FnOk P w K mg base CX0 1 fR fdR ["rules"] spRights)
    (D_overlaps_of : Wp.Dh K mg "overlaps_of" fO fdO ["rules"]) (G_overlaps_of : FnOk P w K mg base CX0 2 fO fdO ["rules"] (spOvS K))
    (D_used : Wp.Dh K mg "used" fU fdU ["rules", "text", "place", "number"]) (G_used : FnOk P w K mg base CX0 1 fU fdU ["rules", "text", "place", "number"] spUsed)
    (D_left_over : Wp.Dh K mg "left_over" fL fdL ["rights", "text"]) (G_left_over : FnOk P w K mg base CX0 3 fL fdL ["rights", "text"] spLeft) : FnOk P w K mg base CX0 4 f fd ["rules"] spQuarS := by
  refine F.ok sc_quarrel_of (fun vs H Q E h => ?_) (fun cdv A outer s H vs Q E hr h => ?_)
  · obtain ⟨t, bs, rs, rfl, _⟩ := h
    rfl
  · obtain ⟨t, bs, rs, rfl, ht, hb, hl, hg, q⟩ := h
    refine ⟨_, (pss_cons (ps_set (i := 1) sc_quarrel_of.nd rfl (by first | exact .inl rfl | exact .inr rfl) (pe_call G_first_rights (hr.mono (by decide)) (by rfl) D_first_rights.g D_first_rights.k D_first_rights.b .nil pass0 (pa_cons (pv 0) pa_nil)))
  (pss_cons (ps_set (i := 2) sc_quarrel_of.nd rfl (by first | exact .inl rfl | exact .inr rfl) pe_dnewK)
  (pss_cons (ps_for PassesOwn.never rfl (Wp.wi_tup (K := K) (pe_call G_overlaps_of (hr.mono (by decide)) (by rfl) D_overlaps_of.g D_overlaps_of.k D_overlaps_of.b .nil pass0 (pa_cons (pv 0) pa_nil))) (Wp.wg_tup (K := K) (n := 4) rfl (pgs_cons (pg_name (i := 3) sc_quarrel_of.nd rfl (by first | exact .inl rfl | exact .inr rfl)) (pgs_cons (pg_name (i := 4) sc_quarrel_of.nd rfl (by first | exact .inl rfl | exact .inr rfl)) (pgs_cons (pg_name (i := 5) sc_quarrel_of.nd rfl (by first | exact .inl rfl | exact .inr rfl)) (pgs_cons (pg_name (i := 6) sc_quarrel_of.nd rfl (by first | exact .inl rfl | exact .inr rfl)) pgs_nil))))) (pss_cons (ps_set (i := 7) sc_quarrel_of.nd rfl (by first | exact .inl rfl | exact .inr rfl) (pe_lst (pa_cons (pe_call G_used (hr.mono (by decide)) (by rfl) D_used.g D_used.k D_used.b .nil pass0 (pa_cons (pv 0) (pa_cons (pv 3) (pa_cons pe_int (pa_cons (pv 4) pa_nil))))) (pa_cons (pe_call G_used (hr.mono (by decide)) (by rfl) D_used.g D_used.k D_used.b .nil pass0 (pa_cons (pv 0) (pa_cons (pv 3) (pa_cons (pv 5) (pa_cons (pv 6) pa_nil))))) pa_nil))))
  (pss_cons (ps_for PassesOwn.never rfl (Wp.wi_list (K := K) (pv 7)) (pg_name (i := 8) sc_quarrel_of.nd rfl (by first | exact .inl rfl | exact .inr rfl)) (pss_one (ps_if (pt_cmp (pc_dnotin (hu_of hr) (pv 8) (pv 2))) (pss_one (ps_dput (hu_of hr) (pv 2) (pv 8) (pe_call G_left_over (hr.mono (by decide)) (by rfl) D_left_over.g D_left_over.k D_left_over.b .nil pass0 (pa_cons (pv 1) (pa_cons (pv 8) pa_nil))) rfl)) pss_nil)))
  (pss_one (ps_if (pt_cmpR (wo_ne (K := K) hr.units) (pe_dget (hu_of hr) (pv 2) (pe_ix (Wp.wx_seq (K := K)) (pv 7) pe_int (fun _ _ => rfl)) (fun _ _ => rfl)) (pe_dget (hu_of hr) (pv 2) (pe_ix (Wp.wx_seq (K := K)) (pv 7) pe_int (fun _ _ => rfl)) (fun _ _ => rfl)) (nomark _)) (pss_one (ps_ret (pv 3))) pss_nil)))))
  (pss_one (ps_ret pe_non))))), ?_⟩
    refine Wp.st (σ' := [some (.ref t), none, none, none, none, none, none, none, none]) rfl ?_
    have hbl := hb.len
    have hbig : (1000000 : Nat) < sizeLine := by decide
    repeat walk_at "W"
    refine ⟨t, bs, rs, rfl, ht, hb, hl, fun H1 d s1 hR => ?_⟩
    repeat walk_at "W"
    intro O hO
    have sO := Wp.same_upd (o := .dK []) hO
    have s2 := s1.trans sO
    have hO0 : H O = none := s1.free hO
    have upO : ∀ {G : Hp} (o : HO), Same (upd H1 O (.dK [])) G → Same H1 (upd G O o) := fun o s b u e => by
      rw [upd_ne (ne_of_none e hO)]; exact s _ _ (sO _ _ e)
    repeat walk_at "W"
    refine ⟨t, bs, rs, rfl, s2 _ _ ht, hb.same s2, hl, hg, fun H3 t2 ws os s3 ht2 hso hws hok => ?_⟩
    have hwl : ws.length ≤ 20000 := by rw [hws.len]; exact ovs_few hso hl hg
    refine ⟨t2, rfl, ⟨_, SqT.of ht2⟩, ?_⟩
    have hO3 := s3 _ _ (upd_same (H := H1) (a := O) (o := .dK []))
    have kp1 : ∀ {G : Hp}, Keep O H3 G → Same H1 G := fun k b u e => k b u (ne_of_none e hO) (s3 _ _ (sO _ _ e))
    have kpo : ∀ {G : Hp} {kvs : List (Key × V)} {b : Addr} {xs : List V}, Keep O H3 G → H3 b = some (.tup xs) → G b = some (.tup xs) := fun {G kvs b xs} k e => k b _ (ne_of e hO3 (by intro z; cases z)) e
    refine Wp.forIt (walk_tup (xs := ws)) (fun i σ1 G => ∃ x3 x4 x5 x6 x7 x8, σ1 = [some (.ref t), some (.ref d), some (.ref O), x3, x4, x5, x6, x7, x8] ∧ Keep O H3 G ∧ ∃ kvs : List (Key × V), G O = some (.dK kvs) ∧ kvs.length ≤ 2 * i ∧ (∀ x v, valV kvs (Sum.inr x) = some v → v = .str (mkS (overP rs (cl x)))) ∧ ∀ (m : Nat) (o' : Ov), m < i → os[m]? = some o' → meets rs o')
      ⟨_, _, _, _, _, _, rfl, Keep.refl _ _, [], hO3, by simp, fun x v e => (nomatch e), fun m o' h => by omega⟩ (fun i σ1 G _ ⟨_, _, _, _, _, _, _, k, _⟩ => SqT.of (kpo (kvs := []) k ht2)) ?_ ?_
    · rintro i x σ1 G G' hi ⟨x3, x4, x5, x6, x7, x8, rfl, k1, kvs, hk, hkl, hks, hmt⟩ ⟨rfl, hx⟩
      obtain ⟨⟨z, one, place, other⟩, hoi⟩ : ∃ o, os[i]? = some o := ⟨_, List.getElem?_eq_getElem (show i < os.length by rw [← hws.len]; exact hi)⟩
      obtain ⟨T, hx', hT⟩ := hws.at_ i _ hoi
      rw [hx] at hx'; cases hx'
      obtain ⟨ho1, ho2, ho3, ho4⟩ := hok _ (List.mem_of_getElem? hoi)
      simp only at ho1 ho2 ho3 ho4
      replace hT : H3 T = some (.tup [.str z, .int (one : Nat), .int (place : Nat), .int (other : Nat)]) := hT
      have sG := s1.trans (kp1 k1)
      obtain ⟨⟨l1, r1⟩, hr1⟩ : ∃ p, rs[one]? = some p := ⟨_, List.getElem?_eq_getElem ho2⟩
      obtain ⟨⟨l2, r2⟩, hr2⟩ : ∃ p, rs[other]? = some p := ⟨_, List.getElem?_eq_getElem ho4⟩
      obtain ⟨g1, g2, g3⟩ := hg _ (List.mem_of_getElem? hr1)
      obtain ⟨g4, g5, g6⟩ := hg _ (List.mem_of_getElem? hr2)
      simp only at g1 g2 g3 g4 g5 g6
      have hul1 := usedS_le z 0 l1 r1
      have hul2 := usedS_le z (place : Nat) l2 r2
      have hil : i < 20000 := by omega
      refine Wp.gt (SqT.of (kpo (kvs := kvs) k1 hT)) rfl ?_
      iterate 9 walk_at "W"
      refine Wp.cutQ (fun σ' G2 => ∃ L x8, σ' = [some (.ref t), some (.ref d), some (.ref O), some (.str z), some (.int (one : Nat)), some (.int (place : Nat)), some (.int (other : Nat)), some (.ref L), x8] ∧ Same G' G2 ∧ G' L = none ∧ G2 L = some (.lst [.str (usedS z 0 l1 r1), .str (usedS z (place : Nat) l2 r2)])) (fun nx hn => ?_) ?_
      · repeat walk_at "W"
        refine ⟨t, bs, rs, z, 0, one, l1, r1, rfl, sG _ _ ht, hb.same sG, hr1, by omega, by omega, by omega, ?_⟩
        repeat walk_at "W"
        refine ⟨t, bs, rs, z, (place : Nat), other, l2, r2, rfl, sG _ _ ht, hb.same sG, hr2, by omega, by omega, by omega, ?_⟩
        repeat walk_at "W"
        intro L hL
        repeat walk_at "W"
        exact hn _ _ ⟨L, _, rfl, Wp.same_upd hL, hL, upd_same⟩
      rintro σ' G2 ⟨L, y8, rfl, sL, hL0, hL⟩
      have hmeet : meets rs (z, one, place, other) ↔ overP rs (cl (usedS z 0 l1 r1)) = overP rs (cl (usedS z (place : Nat) l2 r2)) := by
        unfold meets
        simp only
        rw [lf_of hr1, rt_of hr1, lf_of hr2, rt_of hr2]
      generalize usedS z 0 l1 r1 = u1 at hL hul1 hmeet
      generalize usedS z (place : Nat) l2 r2 = u2 at hL hul2 hmeet
      have k2 : Keep O H3 G2 := k1.trans (Keep.of sL)
      have hk2 := sL _ _ hk
      have hLO : L ≠ O := fun e => by rw [e, hk2] at hL; cases hL
      refine Wp.cutQ (fun σ' G' => ∃ x8, σ' = [some (.ref t), some (.ref d), some (.ref O), some (.str z), some (.int (one : Nat)), some (.int (place : Nat)), some (.int (other : Nat)), some (.ref L), x8] ∧ Keep O G2 G' ∧ ∃ kvs : List (Key × V), G' O = some (.dK kvs) ∧ kvs.length ≤ 2 * i + 2 ∧ (∀ x v, valV kvs (Sum.inr x) = some v → v = .str (mkS (overP rs (cl x)))) ∧ ∀ (m : Nat) u, m < 2 → [u1, u2][m]? = some u → (valV kvs (Sum.inr u)).isSome = true) (fun nx hn => ?_) ?_
      · repeat walk_at "W"
        refine ⟨⟨_, SqL.of hL⟩, Wp.forIt (walk_list (xs := [.str u1, .str u2])) (fun j σ1 G' => ∃ x8, σ1 = [some (.ref t), some (.ref d), some (.ref O), some (.str z), some (.int (one : Nat)), some (.int (place : Nat)), some (.int (other : Nat)), some (.ref L), x8] ∧ Keep O G2 G' ∧ ∃ kvs : List (Key × V), G' O = some (.dK kvs) ∧ kvs.length ≤ 2 * i + j ∧ (∀ x v, valV kvs (Sum.inr x) = some v → v = .str (mkS (overP rs (cl x)))) ∧ ∀ (m : Nat) u, m < j → [u1, u2][m]? = some u → (valV kvs (Sum.inr u)).isSome = true)
          ⟨_, rfl, Keep.refl _ _, kvs, hk2, by omega, hks, fun m u h => by omega⟩ (fun j σ1 G' _ ⟨_, _, k, _⟩ => SqL.of (k _ _ hLO hL)) ?_ ?_⟩
        · rintro j x σ1 G3 G3' hj ⟨z8, rfl, k3, kvs3, hk3, hl3, hs3, hm3⟩ ⟨rfl, hx⟩
          have hj2 : j < 2 := hj
          obtain ⟨u, hu, rfl, hul⟩ : ∃ u, [u1, u2][j]? = some u ∧ x = .str u ∧ u.length ≤ 1000 := by
            rcases (show j = 0 ∨ j = 1 by omega) with e | e
            · subst e; cases hx; exact ⟨u1, rfl, rfl, by omega⟩
            · subst e; cases hx; exact ⟨u2, rfl, rfl, by omega⟩
          repeat walk_at "W"
          refine Wp.dK_in hk3 ?_
          repeat walk_at "W"
          refine Wp.itnb (fun e1 => ?_) (fun e1 => ?_)
          · repeat walk_at "W"
            refine ⟨d, rs, u, rfl, hR.same (kp1 (k2.trans k3)), hg, hul, fun G4 s4 => ?_⟩
            have hk4 := s4 _ _ hk3
            repeat walk_at "W"
            refine Wp.dK_put hk4 (by omega) ?_
            have hn : valV kvs3 (Sum.inr u) = none := by
              cases e : valV kvs3 (Sum.inr u) with
              | none => rfl
              | some _ => rw [e] at e1; cases e1
            refine ⟨_, rfl, (k3.trans (Keep.of s4)).trans (Keep.upd O _ _), _, upd_same, ?_, fun x v e => ?_, fun m u' hm hu' => ?_⟩
            · have := length_putK kvs3 (Sum.inr u) (V.str (mkS (overP rs (cl u))))
              omega
            · rw [valV_put] at e
              split at e
              · rename_i hxe
                cases hxe; cases e; rfl
              · exact hs3 x v e
            · rw [valV_put]
              split
              · rfl
              · rename_i hne
                rcases (show m < j ∨ m = j by omega) with h | h
                · exact hm3 m u' h hu'
                · subst h; rw [hu] at hu'; cases hu'; exact absurd rfl hne
          · repeat walk_at "W"
            refine ⟨_, rfl, k3, kvs3, hk3, by omega, hs3, fun m u' hm hu' => ?_⟩
            rcases (show m < j ∨ m = j by omega) with h | h
            · exact hm3 m u' h hu'
            · subst h; rw [hu] at hu'; cases hu'; exact e1
        · rintro σ1 G3 ⟨z8, rfl, k3, kvs3, hk3, hl3, hs3, hm3⟩
          exact hn _ _ ⟨_, rfl, k3, kvs3, hk3, hl3, hs3, hm3⟩
      rintro σ' G3 ⟨z8, rfl, k3, kvs3, hk3, hl3, hs3, hm3⟩
      have hL3 := k3 _ _ hLO hL
      obtain ⟨v1, hv1⟩ := Option.isSome_iff_exists.mp (hm3 0 u1 (by omega) rfl)
      obtain ⟨v2, hv2⟩ := Option.isSome_iff_exists.mp (hm3 1 u2 (by omega) rfl)
      obtain rfl := hs3 _ _ hv1
      obtain rfl := hs3 _ _ hv2
      repeat walk_at "W"
      refine Wp.dK_get hk3 hv1 ?_
      repeat walk_at "W"
      refine Wp.dK_get hk3 hv2 ?_
      repeat walk_at "W"
      refine Wp.itn (fun e1 => ?_) (fun e1 => ?_)
      · repeat walk_at "W"
        refine q _ _ os (s1.trans (kp1 (k2.trans k3))) hso (.inr ⟨i, _, hoi, fun h => ?_, hmt, rfl⟩)
        exact e1 (by rw [hmeet.mp h])
      · repeat walk_at "W"
        refine ⟨_, _, _, _, _, _, rfl, k2.trans k3, kvs3, hk3, by omega, hs3, fun m o' hm ho' => ?_⟩
        rcases (show m < i ∨ m = i by omega) with h | h
        · exact hmt m o' h ho'
        · subst h
          rw [hoi] at ho'; cases ho'
          refine hmeet.mpr ?_
          rw [← cl_mk (overP rs (cl u1)), e1, cl_mk]
    · rintro σ1 G ⟨x3, x4, x5, x6, x7, x8, rfl, k1, kvs, hk, hkl, hks, hmt⟩
      repeat walk_at "W"
      refine q _ _ os (s1.trans (kp1 k1)) hso (.inl ⟨rfl, fun o ho => ?_⟩)
      obtain ⟨m, hm, e⟩ := List.getElem_of_mem ho
      exact hmt m o (by rw [hws.len]; exact hm) (by rw [List.getElem?_eq_getElem hm, e])
/-- the class of books, as the top has made it -/
structure BkC (K : PySem.W.Frag) (C : Addr) : Prop where
  cl : Cls K C
  nS : NoAttr K C "signs"
  nR : NoAttr K C "rules"
  nT : NoAttr K C "_rights"
  nQ : NoAttr K C "_quarrel"
def bkF (sg : Str) (t d : Addr) (q : V) : List (Str × V) := putF "_quarrel" q (putF "_rights" (.ref d) (putF "rules" (.ref t) (putF "signs" (.str sg) [])))
theorem bkF_signs (sg : Str) (t d : Addr) (q : V) : (bkF sg t d q).lookup ("signs" : Str) = some (.str sg) := by
  unfold bkF
  rw [lookup_putF, if_neg (by decide +kernel), lookup_putF, if_neg (by decide +kernel), lookup_putF, if_neg (by decide +kernel), lookup_putF, if_pos rfl]
theorem bkF_rules (sg : Str) (t d : Addr) (q : V) : (bkF sg t d q).lookup ("rules" : Str) = some (.ref t) := by
  unfold bkF
  rw [lookup_putF, if_neg (by decide +kernel), lookup_putF, if_neg (by decide +kernel), lookup_putF, if_pos rfl]
theorem bkF_quarrel (sg : Str) (t d : Addr) (q : V) : (bkF sg t d q).lookup ("_quarrel" : Str) = some q := by
  unfold bkF
  rw [lookup_putF, if_pos rfl]
/-- a book stands at p -/
structure BookAt (C : Addr) (H : Hp) (p : Addr) (sg : Str) (ps : List (Str × Str)) : Prop where
  ex : ∃ dx t bs d q, H p = some (.ins C dx (bkF sg t d q)) ∧ H t = some (.tup (bs.map V.ref)) ∧ RulesAt H bs ps ∧ RightsAt H d ps ∧ ∃ os, OvSorted os (ovAll ps) ∧ QuarAt ps os q
  g : Good ps
  l : ps.length ≤ 64
theorem BookAt.same {C : Addr} {H H' : Hp} {p : Addr} {sg : Str} {ps : List (Str × Str)} (s : Same H H') (h : BookAt C H p sg ps) : BookAt C H' p sg ps := by
  obtain ⟨dx, t, bs, d, q, h1, h2, h3, h4, h5⟩ := h.ex
  exact ⟨⟨dx, t, bs, d, q, s _ _ h1, s _ _ h2, h3.same s, h4.same s, h5⟩, h.g, h.l⟩
theorem rulesGo_good {sg : Str} : ∀ {ds : List PyData} {ps qs : List (Str × Str)} {i : Nat}, (∀ p ∈ ps, RuleOk sg p.1 p.2) → rulesGo sg ps ds i = .ok qs → (∀ p ∈ qs, RuleOk sg p.1 p.2) ∧ qs.length ≤ ps.length + ds.length
  | [], ps, qs, i, h, e => by cases e; exact ⟨h, by simp⟩
  | d :: ds, ps, qs, i, h, e => by
    rw [rulesGo] at e
    by_cases e1 : isRule sg d = false
    · rw [if_pos e1] at e; cases e
    · rw [if_neg e1] at e
      obtain ⟨l, r, hro, _, hok⟩ := isRule_of (by simpa using e1)
      rw [hro] at e
      have e' : (if (l, r) ∈ ps then Except.error i else rulesGo sg (ps ++ [(l, r)]) ds (i + 1)) = .ok qs := e
      by_cases e2 : (l, r) ∈ ps
      · rw [if_pos e2] at e'; cases e'
      · rw [if_neg e2] at e'
        obtain ⟨h1, h2⟩ := rulesGo_good (fun p hp => by
          rcases List.mem_append.mp hp with z | z
          · exact h p z
          · rw [List.mem_singleton.mp z]; exact hok) e'
        exact ⟨h1, by rw [List.length_append] at h2; simp at h2 ⊢; omega⟩
theorem rulesOf_good {sg : Str} {d : PyData} {ps : List (Str × Str)} (h : rulesOf sg d = .ok ps) : (∀ p ∈ ps, RuleOk sg p.1 p.2) ∧ ps.length ≤ 64 := by
  unfold rulesOf at h
  cases hr : Wp.row d with
  | none => rw [hr] at h; cases h
  | some ds =>
    rw [hr] at h
    have h' : (if 64 < ds.length then Except.error (-1 : Int) else match rulesGo sg [] ds 0 with
      | .error i => .error (i : Nat)
      | .ok ps => .ok ps) = .ok ps := h
    by_cases h64 : 64 < ds.length
    · rw [if_pos h64] at h'; cases h'
    · rw [if_neg h64] at h'
      cases hg : rulesGo sg [] ds 0 with
      | error i => rw [hg] at h'; cases h'
      | ok qs =>
        rw [hg] at h'
        cases h'
        obtain ⟨a, b⟩ := rulesGo_good (ps := []) (fun _ z => nomatch z) hg
        exact ⟨a, by simp at b; omega⟩
theorem good_of {sg : Str} {ps : List (Str × Str)} (h : ∀ p ∈ ps, RuleOk sg p.1 p.2) : Good ps := fun p hp => ⟨(h p hp).l4, (h p hp).r1, (h p hp).lt⟩
def spBook (K : PySem.W.Frag) (C CS CB : Addr) : Sp := fun vs H Q E => ∃ p dx sv sd v d, vs = [.ref p, sv, v] ∧ H p = some (.ins C dx []) ∧ Dp K H sv sd ∧ (∀ z, sd = .str z → z.length ≤ 16777216) ∧ Dp K H v d ∧ Wp.sm d = true ∧ Trk K H v d ∧
  (goodSigns sd = false → ∀ dd H', H dd = none → Same H H' → H' dd = some (.xd [("thing", sv)]) → E (.ref CS) (some dd) H') ∧
  (∀ sg, sd = .str sg → goodSigns sd = true →
    (∀ ps, rulesOf sg d = .ok ps → ∀ H', Wp.Keep p H H' → BookAt C H' p sg ps → Q .non H') ∧
    (∀ i : Int, rulesOf sg d = .error i → ∀ dd H', H dd = none → Wp.Keep p H H' → H' dd = some (.xd [("place", .int i)]) → E (.ref CB) (some dd) H'))
theorem ok_book (B : Wp.Blt mg) {f fS fU fR fQ C CS CB : Addr} {fd fdS fdU fdR fdQ : FuncData} (F : Fun K "__init__" "Book.__init__" s_Book___init__ f fd) (T : BkC K C)
    (D_checked_signs : Wp.Dh K mg "checked_signs" fS fdS ["thing"]) (G_checked_signs : FnOk P w K mg base (L2.CX P w) 3 fS fdS ["thing"] (spSigned K CS))
    (D_rules_of : Wp.Dh K mg "rules_of" fU fdU ["signs", "things"]) (G_rules_of : FnOk P w K mg base (L2.CX P w) 3 fU fdU ["signs", "things"] (spRules K CB))
    (D_first_rights : Wp.Dh K mg "first_rights" fR fdR ["rules"]) (G_first_rights : FnOk P w K mg base CX0 1 fR fdR ["rules"] spRights)
    (D_quarrel_of : Wp.Dh K mg "quarrel_of" fQ fdQ ["rules"]) (G_quarrel_of : FnOk P w K mg base CX0 4 fQ fdQ ["rules"] spQuarS) : FnOk P w K mg base (L2.CX P w) 5 f fd ["self", "signs", "rules"] (spBook K C CS CB) := by
  refine F.okX sc_Book___init__ (fun vs H Q E h => ?_) (fun cdv A outer s H vs Q E hr h => ?_)
  · obtain ⟨p, dx, sv, sd, v, d, rfl, _⟩ := h
    rfl
  · obtain ⟨p, dx, sv, sd, v, d, rfl, hp, hsd, hz, hd, hsm, htk, qs, qa⟩ := h
    refine ⟨_, (pss_cons (Wp.wsfld (K := K) (ps_fld (pv 0) (pe_call G_checked_signs (hr.mono (by decide)) (by rfl) D_checked_signs.g D_checked_signs.k D_checked_signs.b .nil (passes_call (takes_of rfl rfl rfl rfl) (fun _ _ _ _ h => h)) (pa_cons (pv 1) pa_nil)) rfl))
  (pss_cons (Wp.wsfld (K := K) (ps_fld (pv 0) (pe_call G_rules_of (hr.mono (by decide)) (by rfl) D_rules_of.g D_rules_of.k D_rules_of.b .nil (passes_call (takes_of rfl rfl rfl rfl) (fun _ _ _ _ h => h)) (pa_cons (pv 1) (pa_cons (pv 2) pa_nil))) rfl))
  (pss_cons (Wp.wsfld (K := K) (ps_fld (pv 0) (pe_call G_first_rights (hr.mono (by decide)) (by rfl) D_first_rights.g D_first_rights.k D_first_rights.b .nil pass0 (pa_cons (Wp.wfld (K := K) (pe_fld (pv 0) rfl)) pa_nil)) rfl))
  (pss_one (Wp.wsfld (K := K) (ps_fld (pv 0) (pe_call G_quarrel_of (hr.mono (by decide)) (by rfl) D_quarrel_of.g D_quarrel_of.k D_quarrel_of.b .nil pass0 (pa_cons (Wp.wfld (K := K) (pe_fld (pv 0) rfl)) pa_nil)) rfl)))))), ?_⟩
    refine Wp.st (σ' := [some (.ref p), some sv, some v]) rfl ?_
    repeat walk_at "W"
    refine ⟨sv, sd, rfl, hsd, hz, fun hgs => ?_, fun hb => qs hb⟩
    cases sd with
    | str sg =>
      cases hsd
      obtain ⟨qk, qe⟩ := qa sg rfl hgs
      repeat walk_at "W"
      refine ⟨p, C, dx, [], rfl, hp, T.cl, T.nS, by decide, ?_⟩
      have k1 := Keep.upd p H (.ins C dx (putF "signs" (.str sg) []))
      have hp1 : (upd H p (.ins C dx (putF "signs" (.str sg) []))) p = some (.ins C dx (putF "signs" (.str sg) [])) := upd_same
      generalize (upd H p (.ins C dx (putF "signs" (.str sg) []))) = H1 at k1 hp1 ⊢
      repeat walk_at "W"
      have fr : ∀ {b : Addr}, H1 b = none → H b = none := fun {b} e => by
        cases q : H b with
        | none => rfl
        | some o =>
          have hne : b ≠ p := fun z => by rw [z, hp1] at e; cases e
          rw [k1 _ _ hne q] at e; cases e
      refine ⟨sg, v, d, rfl, dp_ins hp k1 _ _ hd, hsm, trk_ins hp k1 htk, fun ps hps H2 t bs s2 ht hb => ?_, fun i hi dd H2 h1 s2 h3 => qe i hi dd H2 (fr h1) (k1.trans (Keep.of s2)) h3⟩
      obtain ⟨hok, h64⟩ := rulesOf_good hps
      have hgd := good_of hok
      repeat walk_at "W"
      refine ⟨p, C, dx, _, rfl, s2 _ _ hp1, T.cl, T.nR, Nat.lt_of_le_of_lt (length_putF _ _ _) (by decide), ?_⟩
      have hpt : ∀ {G : Hp} {b : Addr} {xs : List V} {fs fs' : List (Str × V)}, G p = some (.ins C dx fs) → G b = some (.tup xs) → (upd G p (.ins C dx fs')) b = some (.tup xs) := fun e1 e2 => by
        rw [upd_ne (ne_of e2 e1 (by intro z; cases z))]; exact e2
      have hrt : ∀ {G : Hp} {fs fs' : List (Str × V)} {bs : List Addr} {ps : List (Str × Str)}, G p = some (.ins C dx fs) → RulesAt G bs ps → RulesAt (upd G p (.ins C dx fs')) bs ps := by
        intro G fs fs' bs
        induction bs with
        | nil => intro ps _ h; cases ps with
          | nil => trivial
          | cons _ _ => exact h.elim
        | cons b bs ih => intro ps e h; cases ps with
          | nil => exact h.elim
          | cons q ps => exact ⟨hpt e h.1, ih e h.2⟩
      have k3 := Keep.upd p H2 (.ins C dx (putF "rules" (.ref t) (putF "signs" (.str sg) [])))
      have ht3 := hpt (fs' := putF "rules" (.ref t) (putF "signs" (.str sg) [])) (s2 _ _ hp1) ht
      have hb3 := hrt (fs' := putF "rules" (.ref t) (putF "signs" (.str sg) [])) (s2 _ _ hp1) hb
      have hp3 : (upd H2 p (.ins C dx (putF "rules" (.ref t) (putF "signs" (.str sg) [])))) p = some (.ins C dx (putF "rules" (.ref t) (putF "signs" (.str sg) []))) := upd_same
      generalize (upd H2 p (.ins C dx (putF "rules" (.ref t) (putF "signs" (.str sg) [])))) = H3 at k3 ht3 hb3 hp3 ⊢
      have k03 := (k1.trans (Keep.of s2)).trans k3
      repeat walk_at "W"
      refine ⟨p, C, dx, _, .ref t, rfl, hp3, T.cl, T.nR, by rw [lookup_putF, if_pos rfl], ?_⟩
      repeat walk_at "W"
      refine ⟨t, bs, ps, rfl, ht3, hb3, h64, fun H4 d4 s4 hR => ?_⟩
      repeat walk_at "W"
      refine ⟨p, C, dx, _, rfl, s4 _ _ hp3, T.cl, T.nT, Nat.lt_of_le_of_lt (length_putF _ _ _) (Nat.lt_of_le_of_lt (Nat.succ_le_succ (length_putF _ _ _)) (by decide)), ?_⟩
      have k5 := Keep.upd p H4 (.ins C dx (putF "_rights" (.ref d4) (putF "rules" (.ref t) (putF "signs" (.str sg) []))))
      have ht5 := hpt (fs' := putF "_rights" (.ref d4) (putF "rules" (.ref t) (putF "signs" (.str sg) []))) (s4 _ _ hp3) (s4 _ _ ht3)
      have hb5 := hrt (fs' := putF "_rights" (.ref d4) (putF "rules" (.ref t) (putF "signs" (.str sg) []))) (s4 _ _ hp3) (hb3.same s4)
      have hR5 : RightsAt (upd H4 p (.ins C dx (putF "_rights" (.ref d4) (putF "rules" (.ref t) (putF "signs" (.str sg) []))))) d4 ps := by
        obtain ⟨kvs, h1, h2, h3⟩ := hR.ex
        refine ⟨kvs, ?_, h2, fun x => (h3 x).same fun b xs e => hpt (s4 _ _ hp3) e⟩
        rw [upd_ne (ne_of h1 (s4 _ _ hp3) (by intro z; cases z))]; exact h1
      have hp5 : (upd H4 p (.ins C dx (putF "_rights" (.ref d4) (putF "rules" (.ref t) (putF "signs" (.str sg) []))))) p = some (.ins C dx (putF "_rights" (.ref d4) (putF "rules" (.ref t) (putF "signs" (.str sg) [])))) := upd_same
      generalize (upd H4 p (.ins C dx (putF "_rights" (.ref d4) (putF "rules" (.ref t) (putF "signs" (.str sg) []))))) = H5 at k5 ht5 hb5 hR5 hp5 ⊢
      have k05 := (k03.trans (Keep.of s4)).trans k5
      repeat walk_at "W"
      refine ⟨p, C, dx, _, .ref t, rfl, hp5, T.cl, T.nR, by rw [lookup_putF, if_neg (by decide +kernel), lookup_putF, if_pos rfl], ?_⟩
      repeat walk_at "W"
      refine ⟨t, bs, ps, rfl, ht5, hb5, h64, hgd, fun H6 q6 os6 s6 hso6 hq6 => ?_⟩
      repeat walk_at "W"
      refine ⟨p, C, dx, _, rfl, s6 _ _ hp5, T.cl, T.nQ, Nat.lt_of_le_of_lt (length_putF _ _ _) (Nat.lt_of_le_of_lt (Nat.succ_le_succ (length_putF _ _ _)) (Nat.lt_of_le_of_lt (Nat.succ_le_succ (Nat.succ_le_succ (length_putF _ _ _))) (by decide))), ?_⟩
      refine qk ps hps _ ((k05.trans (Keep.of s6)).trans (Keep.upd p _ _)) ⟨⟨dx, t, bs, d4, q6, upd_same, hpt (s6 _ _ hp5) (s6 _ _ ht5), hrt (s6 _ _ hp5) (hb5.same s6), ?_, os6, hso6, hq6⟩, hgd, h64⟩
      obtain ⟨kvs, h1, h2, h3⟩ := (hR5.same s6).ex
      refine ⟨kvs, ?_, h2, fun x => (h3 x).same fun b xs e => hpt (s6 _ _ hp5) e⟩
      rw [upd_ne (ne_of h1 (s6 _ _ hp5) (by intro z; cases z))]; exact h1
    | _ => cases hgs
end
end K09
set_option Elab.async false
set_option linter.all false
set_option maxRecDepth 100000
namespace K09
open PySem PySem.Spec PyProof.Rows L2
open Wp (wo_lt wo_gt wo_ge wo_eq wo_ne wo_in wo_nin wo_add wo_mul op_shlB ws_any wc_int wc_isi u65)
abbrev s__law_pick : Stmt := topS 113
abbrev N__law_pick : List Str := ["_law_source_here", "_law_many", "_law_digit", "_law_mixed"]
theorem sc__law_pick : FnScope N__law_pick ["_law_source_here", "_law_many"] (defScope s__law_pick) := ⟨rfl, rfl, rfl, by decide +kernel, rfl, by decide +kernel, by decide +kernel⟩
abbrev s__law_source : Stmt := topS 112
abbrev N__law_source : List Str := ["_law_script", "_law_place", "_law_cell", "_law_seed", "_law_one", "_law_number"]
theorem sc__law_source : FnScope N__law_source ["_law_script", "_law_place"] (defScope s__law_source) := ⟨rfl, rfl, rfl, by decide +kernel, rfl, by decide +kernel, by decide +kernel⟩
abbrev s__law_signs : Stmt := topS 114
abbrev N__law_signs : List Str := ["_law_source_here", "_law_menu"]
theorem sc__law_signs : FnScope N__law_signs ["_law_source_here"] (defScope s__law_signs) := ⟨rfl, rfl, rfl, by decide +kernel, rfl, by decide +kernel, by decide +kernel⟩
local macro_rules | `(tactic| walk_at "W") => `(tactic| first
  | (with_reducible first
    | refine Wp.seq ?_ | refine Wp.asg ?_ | refine Wp.ret ?_ | refine Wp.retN ?_ | refine Wp.drop ?_ | refine Wp.nxt ?_ | refine Wp.ifs ?_ | refine Wp.gname ?_
    | refine Wp.op ?_ | refine Wp.un ?_ | refine Wp.tst ?_ | refine Wp.tb' ?_ | refine Wp.tnot ?_ | refine Wp.tand ?_ | refine Wp.tor ?_ | refine Wp.tandV ?_ | refine Wp.torV ?_ | refine Wp.tnotV ?_ | refine Wp.tif ?_ | refine Wp.tchain ?_
    | refine Wp.cb ?_ | refine Wp.call ?_ | refine Wp.cons ?_ | refine Wp.nil ?_ | refine Wp.gsub ?_ | refine Wp.cst ?_ | refine Wp.i0 ?_ | refine Wp.int1 ?_ | refine Wp.eb ?_ | refine Wp.ei ?_
    | refine Wp.gnil ?_ | refine Wp.gcons ?_ | refine Wp.mko ?_ | refine Wp.bm ?_ | refine Wp.ienum ?_ | refine Wp.tru ?_ | refine Wp.u1 ?_ | refine Wp.for_ ?_ | refine Wp.lc ?_ | refine Wp.istr ?_ | refine Wp.ilist ?_ | refine Wp.itup ?_ | refine Wp.irng1 ?_ | refine Wp.irng2 ?_ | refine Wp.yes ?_ | refine Wp.es ?_ | refine Wp.er ?_ | refine Wp.sl ?_ | refine Wp.nopart ?_ | refine Wp.part ?_ | refine Wp.lst ?_ | refine Wp.tup ?_
    | refine Wp.din ?_ | refine Wp.dnotin ?_ | refine Wp.dget ?_ | refine Wp.dget2 ?_ | refine Wp.dput ?_ | refine Wp.dnewK ?_ | refine Wp.dnewT ?_ | refine Wp.bm0 ?_ | refine Wp.m1 ?_ | refine Wp.exs ?_ | refine Wp.is0 ?_ | refine Wp.isnot0 ?_ | refine Wp.fld ?_ | refine Wp.sfld ?_
    | refine Wp.par ?_ | refine Wp.parV ?_ | refine Wp.brk ?_ | refine Wp.aug ?_ | refine Wp.ipaI ?_ | refine Wp.ipsI ?_ | refine Bk.ienumS ?_ | refine Wp.make_ ?_ | refine Wp.itnn ?_ | refine Wp.ltI ?_ | refine Wp.leI ?_ | refine Wp.leS ?_ | refine Wp.inSg ?_ | refine Wp.gtI ?_ | refine Wp.geI ?_ | refine Wp.eqI ?_ | refine Wp.neI ?_ | refine Wp.addI ?_ | refine Wp.ltS ?_ | refine Wp.eqS ?_ | refine Wp.neS ?_)
  | ((with_reducible refine' Wp.var ?hv ?_); (case hv => exact rfl))
  | ((with_reducible refine' Wp.ixl ?hs ?he ?_); (case hs => first | exact SqL.of upd_same | exact SqL.of (by assumption) | assumption); (case he => exact rfl))
  | ((with_reducible refine' Wp.setl ?hs ?he ?_); (case hs => first | exact upd_same | assumption); (case he => exact rfl))
  | ((with_reducible refine' Wp.modP ?hs ?_); (case hs => first | decide | omega))
  | ((with_reducible refine' Wp.divN ?hs ?ht ?_); (case hs => first | decide | omega); (case ht => first | decide | omega))
  | ((with_reducible refine' Wp.mulM ?hs ?ht ?_); (case hs => decide); (case ht => decide))
  | ((with_reducible refine' Wp.mulL ?hs ?_); (case hs => omega))
  | ((with_reducible refine' Wp.mulR ?hs ?_); (case hs => omega))
  | ((with_reducible refine' Wp.powS ?hs ?_); (case hs => decide))
  | ((with_reducible refine' Wp.shr ?hs ?_); (case hs => decide))
  | ((with_reducible refine' Wp.szl ?hs ?_); (case hs => first | decide | (simp; done)))
  | ((with_reducible refine' Wp.lenL ?hs ?_); (case hs => first | exact SqL.of upd_same | exact SqL.of (by assumption) | assumption))
  | ((with_reducible refine' Wp.lenT ?hs ?_); (case hs => first | exact SqT.of upd_same | exact SqT.of (by assumption) | assumption))
  | ((with_reducible refine' Wp.iteC ?hs ?_); (case hs => exact rfl)) | ((with_reducible refine' Wp.iteD ?hs ?_); (case hs => exact Bool.false_ne_true))
  | ((with_reducible refine' Wp.wp ?hs ?_); (case hs => rfl))
  | (with_reducible first | refine Wp.abs ?_ | refine Wp.max2 ?_ | refine Wp.min2 ?_)
  | ((with_reducible refine' Wp.sll ?hs ?_); (case hs => first | exact SqL.of upd_same | exact SqL.of (by assumption) | assumption)))
local macro_rules | `(tactic| walk_at "KQ") => `(tactic| first
  | exact Wp.kq "int" rfl (by decide +kernel) | exact Wp.kq "bool" rfl (by decide +kernel) | exact Wp.kq "str" rfl (by decide +kernel) | exact Wp.kq "list" rfl (by decide +kernel)
  | exact Wp.kq "tuple" rfl (by decide +kernel) | exact Wp.kq "NoneType" rfl (by decide +kernel) | exact Wp.kq "dict" rfl (by decide +kernel))

/-- a source of draws at a: a list of three ints -/
def Src (H : Hp) (a : Addr) : Prop := ∃ d s c : Int, H a = some (.lst [.int d, .int s, .int c])
def spPick : Sp := fun vs H Q _ => ∃ (a : Addr) (m : Int), vs = [.ref a, .int m] ∧ Src H a ∧ 0 < m ∧ m < 1000000 ∧
  ∀ (r : Int) (H' : Hp), 0 ≤ r → r < m → Wp.Keep a H H' → Src H' a → Q (.int r) H'
section
variable {P : Program} {w : World} {K : PySem.W.Frag} {mg : Str → Option Value} {base : Heap}
theorem ok_pick (B : Wp.Blt mg) {f : Addr} {fd : FuncData} (F : Fun K "_law_pick" "_law_pick" s__law_pick f fd) : FnOk P w K mg base CX0 1 f fd ["_law_source_here", "_law_many"] spPick := by
  refine F.ok sc__law_pick (fun vs H Q E h => ?_) (fun cdv A outer s H vs Q E hr h => ?_)
  · obtain ⟨a, m, rfl, _⟩ := h
    rfl
  · obtain ⟨a, m, rfl, ⟨d, s, c, ha⟩, hm0, hm1, q⟩ := h
    refine ⟨_, (pss_cons (ps_if (pt_cmpR wo_gt (pe_ix (Wp.wx_seq (K := K)) (pv 0) pe_int (fun _ _ => rfl)) pe_int (nomark _)) (pss_cons (ps_set (i := 2) sc__law_pick.nd rfl (by first | exact .inl rfl | exact .inr rfl) (pe_op op_modN (pe_callTy wc_int (by rfl) B.int (by decide +kernel) (pa_cons (pe_ix (Wp.wx_seq (K := K)) (pv 0) pe_int (fun _ _ => rfl)) pa_nil)) (pv 1)))
  (pss_cons (ps_asg (pe_op op_fdivN (pe_ix (Wp.wx_seq (K := K)) (pv 0) pe_int (fun _ _ => rfl)) (pv 1)) (pg_sub (pv 0) pe_int set_list))
  (pss_one (ps_ret (pv 2))))) pss_nil)
  (pss_cons (ps_asg (pe_op (wo_add (K := K)) (pe_ix (Wp.wx_seq (K := K)) (pv 0) pe_int (fun _ _ => rfl)) pe_int) (pg_sub (pv 0) pe_int set_list))
  (pss_cons (ps_set (i := 3) sc__law_pick.nd rfl (by first | exact .inl rfl | exact .inr rfl) (pe_op op_modN (pe_callTy wc_int (by rfl) B.int (by decide +kernel) (pa_cons (pe_op wo_mul (pe_op (wo_add (K := K)) (pe_ix (Wp.wx_seq (K := K)) (pv 0) pe_int (fun _ _ => rfl)) (pe_op wo_mul pe_int (pe_ix (Wp.wx_seq (K := K)) (pv 0) pe_int (fun _ _ => rfl)))) pe_int) pa_nil)) pe_int))
  (pss_cons (ps_set (i := 3) sc__law_pick.nd rfl (by first | exact .inl rfl | exact .inr rfl) (pe_op op_modN (pe_callTy wc_int (by rfl) B.int (by decide +kernel) (pa_cons (pe_op (wo_add (K := K)) (pe_op (wo_add (K := K)) (pe_op wo_mul (pv 3) (pv 3)) (pe_op wo_mul pe_int (pe_ix (Wp.wx_seq (K := K)) (pv 0) pe_int (fun _ _ => rfl)))) (pe_ix (Wp.wx_seq (K := K)) (pv 0) pe_int (fun _ _ => rfl))) pa_nil)) pe_int))
  (pss_cons (ps_set (i := 3) sc__law_pick.nd rfl (by first | exact .inl rfl | exact .inr rfl) (pe_op op_modN (pe_callTy wc_int (by rfl) B.int (by decide +kernel) (pa_cons (pe_op (wo_add (K := K)) (pe_op wo_mul (pv 3) pe_int) pe_int) pa_nil)) pe_int))
  (pss_cons (ps_set (i := 3) sc__law_pick.nd rfl (by first | exact .inl rfl | exact .inr rfl) (pe_op op_modN (pe_callTy wc_int (by rfl) B.int (by decide +kernel) (pa_cons (pe_op (wo_add (K := K)) (pe_op wo_mul (pv 3) (pv 3)) (pv 3)) pa_nil)) pe_int))
  (pss_one (ps_ret (pe_op op_modN (pe_callTy wc_int (by rfl) B.int (by decide +kernel) (pa_cons (pe_op op_fdivN (pv 3) pe_int) pa_nil)) (pv 1)))))))))), ?_⟩
    refine Wp.st (σ' := [some (.ref a), some (.int m), none, none]) rfl ?_
    repeat walk_at "W"
    refine Wp.itd (fun h0 => ?_) (fun h0 => ?_)
    · repeat walk_at "W"
      exact q _ _ (Wp.fm hm0).1 (Wp.fm hm0).2 (Wp.Keep.upd _ _ _) ⟨_, _, _, upd_same⟩
    · repeat walk_at "W"
      exact q _ _ (Wp.fm hm0).1 (Wp.fm hm0).2 (Wp.Keep.upd _ _ _) ⟨_, _, _, upd_same⟩
/-- a new source -/
def spSource (K : PySem.W.Frag) : Sp := fun vs H Q _ => ∃ (a : Addr) (ns : List Int) (k : Int), vs = [.ref a, .int k] ∧ SqL K H a (ns.map V.int) ∧ ns.length ≤ 63 ∧ (∀ z ∈ ns, Builtin.Int.intBits z ≤ 1048576) ∧ 0 ≤ k ∧ k < 1000 ∧
  ∀ H' p, Same H H' → H p = none → Src H' p → Q (.ref p) H'
theorem ok_source (B : Wp.Blt mg) {f : Addr} {fd : FuncData} (F : Fun K "_law_source" "_law_source" s__law_source f fd) : FnOk P w K mg base CX0 1 f fd ["_law_script", "_law_place"] (spSource K) := by
  refine F.ok sc__law_source (fun vs H Q E h => ?_) (fun cdv A outer s H vs Q E hr h => ?_)
  · obtain ⟨a, ns, k, rfl, _⟩ := h
    rfl
  · obtain ⟨a, ns, k, rfl, hS, hlen, hbits, hk0, hk1, q⟩ := h
    refine ⟨_, (pss_cons (ps_set (i := 2) sc__law_source.nd rfl (by first | exact .inl rfl | exact .inr rfl) (pe_ifExp (pt_cmpR wo_lt (pv 1) (pe_callB (Wp.wc_len (K := K)) (by rfl) B.len (by decide +kernel) (pa_cons (pv 0) pa_nil)) (nomark _)) (pe_ix (Wp.wx_seq (K := K)) (pv 0) (pv 1) (fun _ _ => rfl)) (pe_op (wo_add (K := K)) (pe_op wo_mul pe_int (pv 1)) pe_int)))
  (pss_cons (ps_set (i := 3) sc__law_source.nd rfl (by first | exact .inl rfl | exact .inr rfl) (pe_op (wo_add (K := K)) (pe_op wo_mul pe_int (pv 1)) pe_int))
  (pss_cons (ps_for PassesOwn.never rfl (Wp.wi_list (K := K) (pe_slice (ws_any (K := K)) (pv 0) po_none (po_some pe_int))) (pg_name (i := 4) sc__law_source.nd rfl (by first | exact .inl rfl | exact .inr rfl)) (pss_one (ps_set (i := 3) sc__law_source.nd rfl (by first | exact .inl rfl | exact .inr rfl) (pe_op op_modN (pe_callTy wc_int (by rfl) B.int (by decide +kernel) (pa_cons (pe_op (wo_add (K := K)) (pe_op wo_mul (pv 3) pe_int) (pe_op op_modN (pe_callTy wc_int (by rfl) B.int (by decide +kernel) (pa_cons (pv 4) pa_nil)) pe_int)) pa_nil)) pe_int))))
  (pss_cons (ps_set (i := 3) sc__law_source.nd rfl (by first | exact .inl rfl | exact .inr rfl) (pe_op op_modN (pe_callTy wc_int (by rfl) B.int (by decide +kernel) (pa_cons (pe_op (wo_add (K := K)) (pe_op wo_mul (pv 3) pe_int) (pe_op op_modN (pe_callTy wc_int (by rfl) B.int (by decide +kernel) (pa_cons (pv 2) pa_nil)) pe_int)) pa_nil)) pe_int))
  (pss_cons (ps_set (i := 5) sc__law_source.nd rfl (by first | exact .inl rfl | exact .inr rfl) (pe_callB Wp.wc_abs (by rfl) B.abs (by decide +kernel) (pa_cons (pv 2) pa_nil)))
  (pss_cons (ps_if (pt_cmpR wo_lt (pv 5) (pe_op op_pow pe_int pe_int) (nomark _)) (pss_one (ps_ret (pe_lst (pa_cons pe_int (pa_cons (pv 3) (pa_cons pe_int pa_nil)))))) pss_nil)
  (pss_cons (ps_if (pt_cmpR wo_gt (pe_op op_shr (pv 5) pe_int) pe_int (nomark _)) (pss_one (ps_set (i := 5) sc__law_source.nd rfl (by first | exact .inl rfl | exact .inr rfl) (pe_op op_sub (pv 5) (pe_op op_shlB (pe_op op_shr (pv 5) pe_int) pe_int)))) pss_nil)
  (pss_one (ps_ret (pe_lst (pa_cons (pv 5) (pa_cons (pv 3) (pa_cons pe_int pa_nil))))))))))))), ?_⟩
    refine Wp.st (σ' := [some (.ref a), some (.int k), none, none, none, none]) rfl ?_
    refine Wp.cutQ (fun σ' H' => ∃ c : Int, Builtin.Int.intBits c ≤ 1048576 ∧ σ' = [some (.ref a), some (.int k), some (.int c), none, none, none] ∧ H' = H) (fun nx hn => ?_) ?_
    · repeat walk_at "W"
      refine Wp.itd (fun h0 => ?_) (fun h0 => ?_)
      · have hk : k.toNat < ns.length := by rw [List.length_map] at h0; omega
        have e : (ns.map V.int)[k.toNat]? = some (.int ns[k.toNat]) := by
          rw [List.getElem?_map, List.getElem?_eq_getElem hk]; rfl
        have e2 : atI (ns.map V.int) k = some (.int ns[k.toNat]) := by
          have q := atI_nat e
          rw [Int.toNat_of_nonneg hk0] at q
          exact q
        repeat walk_at "W"
        refine Wp.ixl hS e2 ?_
        repeat walk_at "W"
        exact hn _ _ ⟨_, hbits _ (List.getElem_mem hk), rfl, rfl⟩
      · repeat walk_at "W"
        refine hn _ _ ⟨_, Nat.le_trans (intBits_le_64 (by omega) (by omega)) (by decide), rfl, rfl⟩
    rintro σ' H' ⟨c, hc, rfl, rfl⟩
    repeat walk_at "W"
    intro p hp
    have hp1 := Wp.same_upd (H := H') (p := p) (o := .lst (cutV (ns.map V.int) none (some 4))) hp
    refine ⟨p, rfl, ⟨_, SqL.of upd_same⟩, Wp.forIt (walk_list (xs := cutV (ns.map V.int) none (some 4))) (fun i σ1 H1 => (∃ (s : Int) (x : Option V), σ1 = [some (.ref a), some (.int k), some (.int c), some (.int s), x, none]) ∧ Same (upd H' p (.lst (cutV (ns.map V.int) none (some 4)))) H1) ⟨⟨_, _, rfl⟩, Same.refl _⟩
      (fun i σ1 H1 _ h => SqL.of (h.2 _ _ upd_same)) ?_ ?_⟩
    · rintro i x σ1 H1 H2 hi ⟨⟨s1, y, rfl⟩, sm⟩ ⟨rfl, hx⟩
      obtain ⟨n, hn, rfl⟩ : ∃ n : Int, n ∈ ns ∧ x = .int n := by
        have hm := List.mem_of_getElem? hx
        unfold cutV at hm
        have hm2 := List.mem_of_mem_drop (List.mem_of_mem_take hm)
        obtain ⟨n, h1, h2⟩ := List.mem_map.mp hm2
        exact ⟨n, h1, h2.symm⟩
      repeat walk_at "W"
      exact ⟨⟨_, _, rfl⟩, sm⟩
    rintro σ1 H1 ⟨⟨s1, x, rfl⟩, sm0⟩
    have sm := hp1.trans sm0
    repeat walk_at "W"
    refine Wp.itd (fun h0 => ?_) (fun h0 => ?_)
    · repeat walk_at "W"
      intro p hp
      exact q _ p (sm.trans (Wp.same_upd hp)) (sm.free hp) ⟨_, _, _, upd_same⟩
    · repeat walk_at "W"
      refine Wp.itd (fun h1 => ?_) (fun h1 => ?_)
      · repeat walk_at "W"
        refine Wp.shl ⟨by decide, ?_⟩ ?_
        · have := Wp.bitsShr 2500 hc
          have e : Int.toNat 2500 = 2500 := rfl
          rw [e]
          omega
        repeat walk_at "W"
        intro p hp
        exact q _ p (sm.trans (Wp.same_upd hp)) (sm.free hp) ⟨_, _, _, upd_same⟩
      · repeat walk_at "W"
        intro p hp
        exact q _ p (sm.trans (Wp.same_upd hp)) (sm.free hp) ⟨_, _, _, upd_same⟩
def menu : List Str := ["ab", "abc", "ab", "ac", "abc", "bz", "a", "bcd", "ab", "kmz", "abc", "xy"]
def spSigns : Sp := fun vs H Q _ => ∃ (a : Addr), vs = [.ref a] ∧ Src H a ∧ ∀ z H', z ∈ menu → Src H' a → Wp.Keep a H H' → Q (.str z) H'
theorem ok_signs (B : Wp.Blt mg) {f fP : Addr} {fd fdP : FuncData} (F : Fun K "_law_signs" "_law_signs" s__law_signs f fd) (D__law_pick : Wp.Dh K mg "_law_pick" fP fdP ["_law_source_here", "_law_many"])
   (G__law_pick : FnOk P w K mg base CX0 1 fP fdP ["_law_source_here", "_law_many"] spPick) : FnOk P w K mg base CX0 2 f fd ["_law_source_here"] spSigns := by
  refine F.ok sc__law_signs (fun vs H Q E h => ?_) (fun cdv A outer s H vs Q E hr h => ?_)
  · obtain ⟨a, rfl, _⟩ := h
    rfl
  · obtain ⟨a, rfl, ⟨d, s, c, ha⟩, q⟩ := h
    refine ⟨_, (pss_cons (ps_set (i := 1) sc__law_signs.nd rfl (by first | exact .inl rfl | exact .inr rfl) (pe_lst (pa_cons pe_str (pa_cons pe_str (pa_cons pe_str (pa_cons pe_str (pa_cons pe_str (pa_cons pe_str (pa_cons pe_str (pa_cons pe_str (pa_cons pe_str (pa_cons pe_str (pa_cons pe_str (pa_cons pe_str pa_nil))))))))))))))
  (pss_one (ps_ret (pe_ix (Wp.wx_seq (K := K)) (pv 1) (pe_call G__law_pick (hr.mono (by decide)) (by rfl) D__law_pick.g D__law_pick.k D__law_pick.b .nil pass0 (pa_cons (pv 0) (pa_cons (pe_callB (Wp.wc_len (K := K)) (by rfl) B.len (by decide +kernel) (pa_cons (pv 1) pa_nil)) pa_nil))) (fun _ _ => rfl))))), ?_⟩
    refine Wp.st (σ' := [some (.ref a), none]) rfl ?_
    repeat walk_at "W"
    intro p hp
    have hap : a ≠ p := ne_of_none ha hp
    repeat walk_at "W"
    refine ⟨a, 12, rfl, ⟨d, s, c, by rw [upd_ne hap]; exact ha⟩, by decide, by decide, fun r H' h0 h1 hk hs => ?_⟩
    have hm : H' p = some (.lst (menu.map V.str)) := hk _ _ (Ne.symm hap) upd_same
    obtain ⟨v, hv, he⟩ := Wp.at_of (xs := menu.map V.str) h0 h1
    obtain ⟨z, hz, rfl⟩ := List.mem_map.mp hv
    refine Wp.ixl (SqL.of hm) he ?_
    exact q z H' hz hs (Wp.Keep.trans (Wp.Keep.of (Wp.same_upd hp)) hk)
end
theorem menu_len : ∀ z ∈ menu, z.length ≤ 3 ∧ 1 ≤ z.length ∧ (z.cps.toList.all fun c => decide (97 ≤ c) && decide (c ≤ 122)) = true := by decide
theorem good_menu : ∀ sg ∈ menu, goodSigns (.str sg) = true := by decide +kernel
theorem sg_ix {sg : Str} {r : Int} (h0 : 0 ≤ r) (h1 : r < (sg.length : Int)) : ∃ c, c ∈ sg.cps.toList ∧ atI sg.cps.toList r = some c := by
  have hl : sg.length = sg.cps.toList.length := by rw [Array.length_toList]; rfl
  have hk : r.toNat < sg.cps.toList.length := by omega
  refine ⟨_, List.getElem_mem hk, ?_⟩
  have q := atI_nat (List.getElem?_eq_getElem hk)
  rw [Int.toNat_of_nonneg h0] at q
  exact q
theorem src_ne {H : Hp} {a p : Addr} (h : H p = none) (s : Src H a) : p ≠ a := fun z => by
  obtain ⟨d, z2, c, e⟩ := s
  rw [z, e] at h; cases h
theorem src_same {H H' : Hp} {a : Addr} (s : Same H H') (h : Src H a) : Src H' a := by
  obtain ⟨d, z2, c, e⟩ := h
  exact ⟨d, z2, c, s _ _ e⟩
theorem src_upd {H : Hp} {a p : Addr} {o : HO} (h : p ≠ a) (s : Src H a) : Src (upd H p o) a := by
  obtain ⟨d, z2, c, e⟩ := s
  exact ⟨d, z2, c, by rw [upd_ne h.symm]; exact e⟩
end K09
set_option Elab.async false
set_option linter.all false
set_option maxRecDepth 100000
set_option maxHeartbeats 8000000
namespace K09
open PySem PySem.Spec PyProof.Rows L2 Bk
open Wp (Keep wo_lt wo_le wo_gt wo_ge wo_eq wo_ne wo_in wo_nin wo_add wo_mul op_shlB ws_any wc_int wc_isi u65)

abbrev s__law_rule : Stmt := topS 116
abbrev N__law_rule : List Str := ["_law_source_here", "_law_signs_here", "_law_longest", "_law_size", "_law_k", "_law_left"]
theorem sc__law_rule : FnScope N__law_rule ["_law_source_here", "_law_signs_here", "_law_longest"] (defScope s__law_rule) := ⟨rfl, rfl, rfl, by decide +kernel, rfl, by decide +kernel, by decide +kernel⟩
abbrev s__law_drawn : Stmt := topS 119
abbrev N__law_drawn : List Str := ["_law_source_here", "_law_signs_here", "_law_rules", "_law_k", "_law_rule_here"]
theorem sc__law_drawn : FnScope N__law_drawn ["_law_source_here", "_law_signs_here"] (defScope s__law_drawn) := ⟨rfl, rfl, rfl, by decide +kernel, rfl, by decide +kernel, by decide +kernel⟩
local macro_rules | `(tactic| walk_at "W") => `(tactic| first
  | (with_reducible first
    | refine Wp.seq ?_ | refine Wp.asg ?_ | refine Wp.ret ?_ | refine Wp.retN ?_ | refine Wp.drop ?_ | refine Wp.nxt ?_ | refine Wp.ifs ?_ | refine Wp.gname ?_
    | refine Wp.op ?_ | refine Wp.un ?_ | refine Wp.tst ?_ | refine Wp.tb' ?_ | refine Wp.tnot ?_ | refine Wp.tand ?_ | refine Wp.tor ?_ | refine Wp.tandV ?_ | refine Wp.torV ?_ | refine Wp.tnotV ?_ | refine Wp.tif ?_ | refine Wp.tchain ?_
    | refine Wp.cb ?_ | refine Wp.call ?_ | refine Wp.cons ?_ | refine Wp.nil ?_ | refine Wp.gsub ?_ | refine Wp.cst ?_ | refine Wp.i0 ?_ | refine Wp.int1 ?_ | refine Wp.eb ?_ | refine Wp.ei ?_
    | refine Wp.gnil ?_ | refine Wp.gcons ?_ | refine Wp.mko ?_ | refine Wp.bm ?_ | refine Wp.ienum ?_ | refine Wp.tru ?_ | refine Wp.u1 ?_ | refine Wp.for_ ?_ | refine Wp.lc ?_ | refine Wp.istr ?_ | refine Wp.ilist ?_ | refine Wp.itup ?_ | refine Wp.irng1 ?_ | refine Wp.irng2 ?_ | refine Wp.yes ?_ | refine Wp.es ?_ | refine Wp.er ?_ | refine Wp.sl ?_ | refine Wp.nopart ?_ | refine Wp.part ?_ | refine Wp.lst ?_ | refine Wp.tup ?_
    | refine Wp.din ?_ | refine Wp.dnotin ?_ | refine Wp.dget ?_ | refine Wp.dget2 ?_ | refine Wp.dput ?_ | refine Wp.dnewK ?_ | refine Wp.dnewT ?_ | refine Wp.bm0 ?_ | refine Wp.m1 ?_ | refine Wp.exs ?_ | refine Wp.is0 ?_ | refine Wp.isnot0 ?_ | refine Wp.fld ?_ | refine Wp.sfld ?_
    | refine Wp.par ?_ | refine Wp.parV ?_ | refine Wp.brk ?_ | refine Wp.aug ?_ | refine Wp.ipaI ?_ | refine Wp.ipsI ?_ | refine Bk.ienumS ?_ | refine Wp.make_ ?_ | refine Wp.itnn ?_ | refine Wp.ltI ?_ | refine Wp.leI ?_ | refine Wp.leS ?_ | refine Wp.inSg ?_ | refine Wp.gtI ?_ | refine Wp.geI ?_ | refine Wp.eqI ?_ | refine Wp.neI ?_ | refine Wp.addI ?_ | refine Wp.ltS ?_ | refine Wp.eqS ?_ | refine Wp.neS ?_)
  | ((with_reducible refine' Wp.var ?hv ?_); (case hv => exact rfl))
  | ((with_reducible refine' Wp.ixl ?hs ?he ?_); (case hs => first | exact SqL.of upd_same | exact SqL.of (by assumption) | assumption); (case he => exact rfl))
  | ((with_reducible refine' Wp.setl ?hs ?he ?_); (case hs => first | exact upd_same | assumption); (case he => exact rfl))
  | ((with_reducible refine' Wp.modP ?hs ?_); (case hs => first | decide | omega))
  | ((with_reducible refine' Wp.divN ?hs ?ht ?_); (case hs => first | decide | omega); (case ht => first | decide | omega))
  | ((with_reducible refine' Wp.mulM ?hs ?ht ?_); (case hs => decide); (case ht => decide))
  | ((with_reducible refine' Wp.mulL ?hs ?_); (case hs => omega))
  | ((with_reducible refine' Wp.mulR ?hs ?_); (case hs => omega))
  | ((with_reducible refine' Wp.powS ?hs ?_); (case hs => decide))
  | ((with_reducible refine' Wp.shr ?hs ?_); (case hs => decide))
  | ((with_reducible refine' Wp.szl ?hs ?_); (case hs => first | decide | (simp; done)))
  | ((with_reducible refine' Wp.lenL ?hs ?_); (case hs => first | exact SqL.of upd_same | exact SqL.of (by assumption) | assumption))
  | ((with_reducible refine' Wp.lenT ?hs ?_); (case hs => first | exact SqT.of upd_same | exact SqT.of (by assumption) | assumption))
  | ((with_reducible refine' Wp.iteC ?hs ?_); (case hs => exact rfl)) | ((with_reducible refine' Wp.iteD ?hs ?_); (case hs => exact Bool.false_ne_true))
  | ((with_reducible refine' Wp.wp ?hs ?_); (case hs => rfl))
  | (with_reducible first | refine Wp.abs ?_ | refine Wp.max2 ?_ | refine Wp.min2 ?_)
  | ((with_reducible refine' Wp.sll ?hs ?_); (case hs => first | exact SqL.of upd_same | exact SqL.of (by assumption) | assumption)))
local macro_rules | `(tactic| walk_at "KQ") => `(tactic| first
  | exact Wp.kq "int" rfl (by decide +kernel) | exact Wp.kq "bool" rfl (by decide +kernel) | exact Wp.kq "str" rfl (by decide +kernel) | exact Wp.kq "list" rfl (by decide +kernel)
  | exact Wp.kq "tuple" rfl (by decide +kernel) | exact Wp.kq "NoneType" rfl (by decide +kernel) | exact Wp.kq "dict" rfl (by decide +kernel))

section
variable {P : Program} {w : World} {K : PySem.W.Frag} {mg : Str → Option Value} {base : Heap}
def over (sg z : Str) : Prop := ∀ c ∈ cl z, c ∈ cl sg
def spDText : Sp := fun vs H Q _ => ∃ a sg m, vs = [.ref a, .str sg, .int m] ∧ Src H a ∧ sg ∈ menu ∧ 0 ≤ m ∧ m ≤ 200 ∧ ∀ H' z, Keep a H H' → Src H' a → (z.length : Int) ≤ m → over sg z → Q (.str z) H'
/-- a rule is drawn; its left side is no longer than is asked -/
def spDRuleN : Sp := fun vs H Q _ => ∃ a sg m, vs = [.ref a, .str sg, .int m] ∧ Src H a ∧ sg ∈ menu ∧ 2 ≤ m ∧ m ≤ 4 ∧ ∀ H' b l r, Keep a H H' → Src H' a → H b = none → b ≠ a → H' b = some (.tup [.str l, .str r]) → RuleOk sg l r → (l.length : Int) ≤ m → Q (.ref b) H'
def spDRule : Sp := fun vs H Q _ => ∃ a sg m, vs = [.ref a, .str sg, .int m] ∧ Src H a ∧ sg ∈ menu ∧ 2 ≤ m ∧ m ≤ 4 ∧ ∀ H' b l r, Keep a H H' → Src H' a → H b = none → b ≠ a → H' b = some (.tup [.str l, .str r]) → RuleOk sg l r → Q (.ref b) H'
theorem ok_druleN (B : Wp.Blt mg) {f fP : Addr} {fd fdP : FuncData} (F : Fun K "_law_rule" "_law_rule" s__law_rule f fd) (D__law_pick : Wp.Dh K mg "_law_pick" fP fdP ["_law_source_here", "_law_many"])
    (G__law_pick : FnOk P w K mg base CX0 1 fP fdP ["_law_source_here", "_law_many"] spPick) : FnOk P w K mg base CX0 2 f fd ["_law_source_here", "_law_signs_here", "_law_longest"] spDRuleN := by
  refine F.ok sc__law_rule (fun vs H Q E h => ?_) (fun cdv A outer s H vs Q E hr h => ?_)
  · obtain ⟨a, sg, m, rfl, _⟩ := h
    rfl
  · obtain ⟨a, sg, m, rfl, hs, hmn, h0, h1, q⟩ := h
    have hsl := menu_len sg hmn
    refine ⟨_, (pss_cons (ps_set (i := 3) sc__law_rule.nd rfl (by first | exact .inl rfl | exact .inr rfl) (pe_op (wo_add (K := K)) pe_int (pe_call G__law_pick (hr.mono (by decide)) (by rfl) D__law_pick.g D__law_pick.k D__law_pick.b .nil pass0 (pa_cons (pv 0) (pa_cons (pv 2) pa_nil)))))
  (pss_cons (ps_if (PW.pt (pw_and (pt_cmpR (wo_eq (K := K) hr.units) (pv 3) pe_int (nomark _)) (pw_and1 (pt_cmpR wo_gt (pe_call G__law_pick (hr.mono (by decide)) (by rfl) D__law_pick.g D__law_pick.k D__law_pick.b .nil pass0 (pa_cons (pv 0) (pa_cons pe_int pa_nil))) pe_int (nomark _))))) (pss_one (ps_set (i := 3) sc__law_rule.nd rfl (by first | exact .inl rfl | exact .inr rfl) (pe_callB (Wp.wc_min rfl) (by rfl) B.min (by decide +kernel) (pa_cons pe_int (pa_cons (pv 2) pa_nil))))) pss_nil)
  (pss_cons (ps_set (i := 5) sc__law_rule.nd rfl (by first | exact .inl rfl | exact .inr rfl) (Wp.wjoin (K := K) (pe_join pe_str (pe_lc (own := [("_law_k", 4)]) (g := gName 4) (by rfl) sc__law_rule.nd (pi_range1 (by rfl) B.range (pa_cons (pv 3) pa_nil)) (blkOk_by (own := [("_law_k", 4)]) (N := N__law_rule) (sc := defScope s__law_rule) (by decide +kernel)) (fun _ _ _ _ _ => pg_name (i := 4) sc__law_rule.nd rfl (Or.inl rfl)) (fun _ _ _ _ _ => pts_nil) (fun _ _ _ _ _ => (pe_ix (Wp.wx_seq (K := K)) (pv 1) (pe_call G__law_pick (hr.mono (by decide)) (by rfl) D__law_pick.g D__law_pick.k D__law_pick.b .nil pass0 (pa_cons (pv 0) (pa_cons (pe_callB (Wp.wc_len (K := K)) (by rfl) B.len (by decide +kernel) (pa_cons (pv 1) pa_nil)) pa_nil))) (fun _ _ => rfl)))))))
  (pss_cons (ps_if (PW.pt (pw_or (pt_cmpR (wo_eq (K := K) hr.units) (pv 3) pe_int (nomark _)) (pw_or1 (pt_cmpR (wo_eq (K := K) hr.units) (pe_call G__law_pick (hr.mono (by decide)) (by rfl) D__law_pick.g D__law_pick.k D__law_pick.b .nil pass0 (pa_cons (pv 0) (pa_cons pe_int pa_nil))) pe_int (nomark _))))) (pss_one (ps_ret (pe_tup (pa_cons (pv 5) (pa_cons pe_str pa_nil))))) pss_nil)
  (pss_one (ps_ret (pe_tup (pa_cons (pv 5) (pa_cons (pe_ix (Wp.wx_seq (K := K)) (pv 1) (pe_call G__law_pick (hr.mono (by decide)) (by rfl) D__law_pick.g D__law_pick.k D__law_pick.b .nil pass0 (pa_cons (pv 0) (pa_cons (pe_callB (Wp.wc_len (K := K)) (by rfl) B.len (by decide +kernel) (pa_cons (pv 1) pa_nil)) pa_nil))) (fun _ _ => rfl)) pa_nil))))))))), ?_⟩
    refine Wp.st (σ' := [some (.ref a), some (.str sg), some (.int m), none, none, none]) rfl ?_
    have keepN : ∀ {G : Hp} {b : Addr}, Keep a H G → Src G a → G b = none → H b = none := fun {G b} k sG e => by
      cases q : H b with
      | none => rfl
      | some o => rw [k _ _ (src_ne e sG) q] at e; cases e
    refine Wp.cutQ (fun σ' H' => ∃ n : Nat, σ' = [some (.ref a), some (.str sg), some (.int m), some (.int (n : Nat)), none, none] ∧ 1 ≤ n ∧ n ≤ 4 ∧ (n : Int) ≤ m ∧ Keep a H H' ∧ Src H' a) (fun nx hn => ?_) ?_
    · repeat walk_at "W"
      refine ⟨a, m, rfl, hs, by omega, by omega, fun r H1 r0 r1 k1 s1 => ?_⟩
      repeat walk_at "W"
      exact hn _ _ ⟨(1 + r).toNat, by rw [show (((1 + r).toNat : Nat) : Int) = 1 + r by omega]; rfl, by omega, by omega, by omega, k1, s1⟩
    rintro σ' H1 ⟨n, rfl, n1, n4, nm, k1, s1⟩
    refine Wp.cutQ (fun σ' H' => ∃ n : Nat, σ' = [some (.ref a), some (.str sg), some (.int m), some (.int (n : Nat)), none, none] ∧ 1 ≤ n ∧ n ≤ 4 ∧ (n : Int) ≤ m ∧ Keep a H H' ∧ Src H' a) (fun nx hn => ?_) ?_
    · repeat walk_at "W"
      refine Wp.itd (fun e1 => ?_) (fun e1 => ?_)
      · repeat walk_at "W"
        refine ⟨a, 4, rfl, s1, by omega, by omega, fun r H2 r0 r1 k2 s2 => ?_⟩
        repeat walk_at "W"
        refine Wp.itd (fun e2 => ?_) (fun e2 => ?_)
        · repeat walk_at "W"
          refine hn _ _ ⟨2, ?_, by omega, by omega, by omega, k1.trans k2, s2⟩
          rw [if_neg (by omega)]; rfl
        · repeat walk_at "W"
          exact hn _ _ ⟨n, rfl, n1, n4, nm, k1.trans k2, s2⟩
      · repeat walk_at "W"
        exact hn _ _ ⟨n, rfl, n1, n4, nm, k1, s1⟩
    rintro σ' H2 ⟨n, rfl, n1, n4, nm, k2, s2⟩
    refine Wp.cutQ (fun σ' H' => ∃ (l : Str) (x5 : Option V), σ' = [some (.ref a), some (.str sg), some (.int m), some (.int (n : Nat)), x5, some (.str l)] ∧ l.length = n ∧ over sg l ∧ Keep a H H' ∧ Src H' a) (fun nx hn => ?_) ?_
    · repeat walk_at "W"
      refine ⟨(n : Nat), rfl, by omega, by omega, fun A hA => ?_⟩
      have hAa := src_ne hA s2
      have hA0 := keepN k2 s2 hA
      refine Wp.lcIt walk_range (fun i H3 => ∃ cs : List Nat, Keep a H H3 ∧ Src H3 a ∧ H3 A = some (.lst (cs.map ch)) ∧ cs.length = i ∧ ∀ c ∈ cs, c ∈ cl sg) ⟨[], k2.trans (Keep.of (Wp.same_upd hA)), src_same (Wp.same_upd hA) s2, upd_same, rfl, fun _ z => nomatch z⟩ (fun _ _ _ _ => trivial) ?_ ?_
      · rintro i x H3 H3' hi ⟨cs, k3, s3, hl, hcl, hcs⟩ ⟨rfl, rfl⟩
        repeat walk_at "W"
        refine Wp.lenS (Nat.le_of_lt (small1000 (by omega))) ?_
        repeat walk_at "W"
        refine ⟨a, sg.length, rfl, s3, by omega, by omega, fun r2 H4 h20 h21 k4 s4 => ?_⟩
        obtain ⟨c, hc, hat⟩ := sg_ix h20 h21
        refine Wp.ixs (Nat.le_of_lt (small1000 (by omega))) hat ?_
        refine ⟨_, k4 _ _ hAa hl, by rw [List.length_map]; exact small1000 (by omega), cs ++ [c], fun b o hb e => ?_, src_upd hAa s4, by rw [upd_same, List.map_append]; rfl, by rw [List.length_append]; simp; omega, fun x hx => ?_⟩
        · rw [upd_ne (ne_of_none e hA0)]; exact k4 _ _ hb (k3 _ _ hb e)
        · rcases List.mem_append.mp hx with e | e
          · exact hcs x e
          · rw [List.mem_singleton.mp e]; exact hc
      · rintro H3 ⟨cs, k3, s3, hl, hcl, hcs⟩
        repeat walk_at "W"
        refine joinC (SqL.of hl) (by omega) ?_
        repeat walk_at "W"
        exact hn _ _ ⟨mkS cs, none, rfl, by rw [len_mk]; omega, fun x hx => hcs x (by rw [cl_mk] at hx; exact hx), k3, s3⟩
    rintro σ' H3 ⟨l, x5, rfl, hll, hov, k3, s3⟩
    have fin : ∀ (r : Str) (H4 : Hp), Keep a H H4 → Src H4 a → r.length ≤ 1 → r.length < l.length → over sg r → ∀ p, H4 p = none → Q (.ref p) (upd H4 p (.tup [.str l, .str r])) := fun r H4 k4 s4 h1 h2 h3 p hp => by
      have hpa := src_ne hp s4
      exact q _ p l r (k4.trans (Keep.of (Wp.same_upd hp))) (src_upd hpa s4) (keepN k4 s4 hp) hpa upd_same ⟨by omega, h1, h2, hov, h3⟩ (by omega)
    have hemp : over sg "" := fun x hx => by cases hx
    repeat walk_at "W"
    refine Wp.itd (fun e1 => ?_) (fun e1 => ?_)
    · repeat walk_at "W"
      exact fin "" H3 k3 s3 (by decide) (by show 0 < l.length; omega) hemp
    · repeat walk_at "W"
      refine ⟨a, 3, rfl, s3, by omega, by omega, fun r H4 r0 r1 k4 s4 => ?_⟩
      repeat walk_at "W"
      refine Wp.itd (fun e2 => ?_) (fun e2 => ?_)
      · repeat walk_at "W"
        exact fin "" H4 (k3.trans k4) s4 (by decide) (by show 0 < l.length; omega) hemp
      · repeat walk_at "W"
        refine Wp.lenS (Nat.le_of_lt (small1000 (by omega))) ?_
        repeat walk_at "W"
        refine ⟨a, sg.length, rfl, s4, by omega, by omega, fun r2 H5 h20 h21 k5 s5 => ?_⟩
        obtain ⟨c, hc, hat⟩ := sg_ix h20 h21
        refine Wp.ixs (Nat.le_of_lt (small1000 (by omega))) hat ?_
        repeat walk_at "W"
        exact fin ⟨#[c]⟩ H5 ((k3.trans k4).trans k5) s5 (by show 1 ≤ 1; omega) (by show 1 < l.length; omega) (fun x hx => by rw [List.mem_singleton.mp (show x ∈ [c] from hx)]; exact hc)
/-- a rule as data -/
def ruleD (p : Str × Str) : PyData := .tuple [.str p.1, .str p.2]
theorem rules_dps {K : PySem.W.Frag} {H : Hp} : ∀ {bs : List Addr} {rs : List (Str × Str)}, RulesAt H bs rs → DpAll K H (bs.map V.ref) (rs.map ruleD)
  | [], [], _ => .nil
  | _ :: _, _ :: _, h => .cons (.tup (SqT.of h.1) (.cons (.str _) (.cons (.str _) .nil))) (rules_dps h.2)
  | [], _ :: _, h => h.elim
  | _ :: _, [], h => h.elim
theorem rulesAt_app {H : Hp} {b : Addr} {p : Str × Str} : ∀ {bs : List Addr} {rs : List (Str × Str)}, RulesAt H bs rs → H b = some (.tup [.str p.1, .str p.2]) → RulesAt H (bs ++ [b]) (rs ++ [p])
  | [], [], _, e => ⟨e, trivial⟩
  | _ :: _, _ :: _, h, e => ⟨h.1, rulesAt_app h.2 e⟩
  | [], _ :: _, h, _ => h.elim
  | _ :: _, [], h, _ => h.elim
theorem rulesAt_keep {H H' : Hp} (s : ∀ b xs, H b = some (.tup xs) → H' b = some (.tup xs)) : ∀ {bs : List Addr} {rs : List (Str × Str)}, RulesAt H bs rs → RulesAt H' bs rs
  | [], [], _ => trivial
  | _ :: _, _ :: _, h => ⟨s _ _ h.1, rulesAt_keep s h.2⟩
  | [], _ :: _, h => h.elim
  | _ :: _, [], h => h.elim
theorem str_shaped {sg z : Str} (hm : sg ∈ menu) (h : over sg z) : PyData.strOk z = true := by
  have h2 := (menu_len sg hm).2.2
  show (z.cps.all (· < 0x110000)) = true
  rw [← Array.all_toList]
  refine List.all_eq_true.mpr fun c hc => ?_
  have h3 := List.all_eq_true.mp h2 c (h c hc)
  simp at h3
  exact decide_eq_true (by omega)
theorem ruleD_shaped {sg : Str} {p : Str × Str} (hm : sg ∈ menu) (h : RuleOk sg p.1 p.2) : SeqAt.shaped (ruleD p) = true ∧ (ruleD p).depth ≤ 60 := by
  have h1 := str_shaped hm (z := p.1) h.lc
  have h2 := str_shaped hm (z := p.2) h.rc
  unfold SeqAt.shaped ruleD
  simp [PyData.canLay0, PyData.canLayAll0, PyData.depth, PyData.depthAll, h1, h2]
theorem shaped_list {ds : List PyData} (h : ∀ d ∈ ds, SeqAt.shaped d = true ∧ d.depth ≤ 60) : SeqAt.shaped (.list ds) = true := by
  have h1 : ∀ {ds : List PyData}, (∀ d ∈ ds, SeqAt.shaped d = true ∧ d.depth ≤ 60) → PyData.canLayAll0 ds = true ∧ PyData.depthAll ds ≤ 60 := by
    intro ds
    induction ds with
    | nil => intro _; exact ⟨rfl, by simp [PyData.depthAll]⟩
    | cons d ds ih =>
      intro h
      obtain ⟨a, b⟩ := ih fun e he => h e (List.mem_cons_of_mem _ he)
      obtain ⟨c1, c2⟩ := h d List.mem_cons_self
      have c3 : d.canLay0 = true := by
        unfold SeqAt.shaped at c1
        rw [Bool.and_eq_true] at c1
        exact c1.1
      refine ⟨by rw [PyData.canLayAll0, c3, a]; rfl, ?_⟩
      rw [PyData.depthAll]
      exact Nat.max_le.mpr ⟨c2, b⟩
  obtain ⟨a, b⟩ := h1 h
  unfold SeqAt.shaped
  rw [Bool.and_eq_true]
  refine ⟨by rw [PyData.canLay0]; exact a, decide_eq_true ?_⟩
  rw [PyData.depth]; omega
theorem ruleD_eqv (p q : Str × Str) : PyData.eqv (ruleD p) (ruleD q) = decide (p = q) := by
  obtain ⟨a, b⟩ := p
  obtain ⟨c, d⟩ := q
  show PyData.eqv (.tuple [.str a, .str b]) (.tuple [.str c, .str d]) = _
  simp only [PyData.eqv, PyData.eqvAll]
  by_cases h1 : a = c <;> by_cases h2 : b = d <;> simp [h1, h2]
/-- rules are drawn, with left sides no longer than ll -/
def spDrawnN (lo hi ll : Nat) : Sp := fun vs H Q _ => ∃ a sg, vs = [.ref a, .str sg] ∧ Src H a ∧ sg ∈ menu ∧ ∀ H' t bs rs, Keep a H H' → Src H' a → H t = none → H' t = some (.tup (bs.map V.ref)) → RulesAt H' bs rs → (∀ p ∈ rs, RuleOk sg p.1 p.2 ∧ p.1.length ≤ ll) → rs.Nodup → lo ≤ rs.length → rs.length ≤ hi → Q (.ref t) H'
def spDrawn (lo hi : Nat) : Sp := fun vs H Q _ => ∃ a sg, vs = [.ref a, .str sg] ∧ Src H a ∧ sg ∈ menu ∧ ∀ H' t bs rs, Keep a H H' → Src H' a → H t = none → H' t = some (.tup (bs.map V.ref)) → RulesAt H' bs rs → (∀ p ∈ rs, RuleOk sg p.1 p.2) → rs.Nodup → lo ≤ rs.length → rs.length ≤ hi → Q (.ref t) H'
theorem ok_drawnN (B : Wp.Blt mg) {f fP fU : Addr} {fd fdP fdU : FuncData} (F : Fun K "_law_drawn" "_law_drawn" s__law_drawn f fd) (D__law_pick : Wp.Dh K mg "_law_pick" fP fdP ["_law_source_here", "_law_many"])
    (G__law_pick : FnOk P w K mg base CX0 1 fP fdP ["_law_source_here", "_law_many"] spPick)
    (D__law_rule : Wp.Dh K mg "_law_rule" fU fdU ["_law_source_here", "_law_signs_here", "_law_longest"]) (G__law_rule : FnOk P w K mg base CX0 2 fU fdU ["_law_source_here", "_law_signs_here", "_law_longest"] spDRuleN) : FnOk P w K mg base CX0 3 f fd ["_law_source_here", "_law_signs_here"] (spDrawnN 1 4 3) := by
  refine F.ok sc__law_drawn (fun vs H Q E h => ?_) (fun cdv A outer s H vs Q E hr h => ?_)
  · obtain ⟨a, sg, rfl, _⟩ := h
    rfl
  · obtain ⟨a, sg, rfl, hs, hmn, q⟩ := h
    refine ⟨_, (pss_cons (ps_set (i := 2) sc__law_drawn.nd rfl (by first | exact .inl rfl | exact .inr rfl) (pe_lst pa_nil))
  (pss_cons (ps_for PassesOwn.never rfl (pi_range1 (by rfl) B.range (pa_cons (pe_op (wo_add (K := K)) pe_int (pe_call G__law_pick (hr.mono (by decide)) (by rfl) D__law_pick.g D__law_pick.k D__law_pick.b .nil pass0 (pa_cons (pv 0) (pa_cons pe_int pa_nil)))) pa_nil)) (pg_name (i := 3) sc__law_drawn.nd rfl (by first | exact .inl rfl | exact .inr rfl)) (pss_cons (ps_set (i := 4) sc__law_drawn.nd rfl (by first | exact .inl rfl | exact .inr rfl) (pe_call G__law_rule (hr.mono (by decide)) (by rfl) D__law_rule.g D__law_rule.k D__law_rule.b .nil pass0 (pa_cons (pv 0) (pa_cons (pv 1) (pa_cons pe_int pa_nil)))))
  (pss_one (ps_if (pt_cmpR (wo_nin (K := K) (u65 hr)) (pv 4) (pv 2) (by rfl)) (pss_one (ps_expr (Wp.wbm (K := K) (pe_bm PySem.F.plainAttrs_list PySem.F.slot_list_append PySem.F.type_list_append mt_append (pv 2) (pa_cons (pv 4) pa_nil))))) pss_nil))))
  (pss_one (ps_ret (pe_callTy (Wp.wc_tuple (K := K)) (by rfl) B.tuple (by decide +kernel) (pa_cons (pv 2) pa_nil)))))), ?_⟩
    refine Wp.st (σ' := [some (.ref a), some (.str sg), none, none, none]) rfl ?_
    repeat walk_at "W"
    intro L hL
    have hLa := src_ne hL hs
    have sL := Wp.same_upd (o := .lst []) hL
    repeat walk_at "W"
    refine ⟨a, 4, rfl, src_same sL hs, by omega, by omega, fun r H1 r0 r1 k1 s1 => ?_⟩
    have hL1 := k1 _ _ hLa (upd_same (H := H) (a := L) (o := .lst []))
    repeat walk_at "W"
    refine ⟨1 + r, rfl, by omega, by omega, ?_⟩
    refine Wp.forIt walk_range (fun i σ1 H2 => ∃ bs rs x3 x4, σ1 = [some (.ref a), some (.str sg), some (.ref L), x3, x4] ∧ Keep a H H2 ∧ Src H2 a ∧ H2 L = some (.lst (bs.map V.ref)) ∧ RulesAt H2 bs rs ∧ (∀ p ∈ rs, RuleOk sg p.1 p.2 ∧ p.1.length ≤ 3) ∧ rs.Nodup ∧ rs.length ≤ i ∧ (0 < i → 1 ≤ rs.length)) ⟨[], [], _, _, rfl, (Keep.of sL).trans k1, s1, hL1, trivial, (fun _ z => nomatch z), List.nodup_nil, Nat.le_refl _, fun z => absurd z (by omega)⟩ (fun _ _ _ _ _ => trivial) ?_ ?_
    · rintro i x σ1 H2 H2' hi ⟨bs, rs, x3, x4, rfl, k2, s2, hl, hR, hok, hnd, hle, hge⟩ ⟨rfl, rfl⟩
      repeat walk_at "W"
      refine ⟨a, sg, 3, rfl, s2, hmn, by omega, by omega, fun H3 b l r k3 s3 hb0 hba hb hr hrl => ?_⟩
      have hl3 := k3 _ _ hLa hl
      obtain ⟨z1, z2, z3, ha2⟩ := s2
      have hR3 := rulesAt_keep (fun c xs e => k3 c _ (ne_of e ha2 (by intro z; cases z)) e) hR
      repeat walk_at "W"
      refine .inr ⟨ruleD (l, r), rs.map ruleD, .tup (SqT.of hb) (.cons (.str _) (.cons (.str _) .nil)), .lst (SqL.of hl3) (rules_dps hR3), (ruleD_shaped (p := (l, r)) hmn hr).1, shaped_list (fun d hd => by obtain ⟨p, hp, rfl⟩ := List.mem_map.mp hd; exact ruleD_shaped hmn (hok p hp).1), ?_⟩
      have hany : ((rs.map ruleD).any fun z => PyData.eqv z (ruleD (l, r))) = decide ((l, r) ∈ rs) := by
        rw [List.any_map]
        by_cases hm : (l, r) ∈ rs
        · rw [decide_eq_true hm]
          exact List.any_eq_true.mpr ⟨_, hm, by show PyData.eqv _ _ = true; rw [ruleD_eqv]; exact decide_eq_true rfl⟩
        · rw [decide_eq_false hm]
          refine List.any_eq_false.mpr fun y hy z => ?_
          have z' : PyData.eqv (ruleD y) (ruleD (l, r)) = true := z
          rw [ruleD_eqv] at z'
          exact hm ((of_decide_eq_true z') ▸ hy)
      rw [hany]
      repeat walk_at "W"
      have hbl := hR3.len
      have hH0 : H L = none := hL
      refine Wp.itn (fun e1 => ?_) (fun e1 => ?_)
      · repeat walk_at "W"
        refine Wp.tyl hl3 ?_
        repeat walk_at "W"
        refine Wp.app hl3 (by rw [List.length_map]; exact small1000 (by omega)) ?_
        repeat walk_at "W"
        have hbL : b ≠ L := fun e => by rw [e] at hb; rw [hl3] at hb; cases hb
        refine ⟨bs ++ [b], rs ++ [(l, r)], _, _, rfl, fun c o hc e => ?_, src_upd hLa s3, by rw [upd_same, List.map_append]; rfl, ?_, fun p hp => ?_, ?_, by rw [List.length_append]; simp; omega, fun _ => by rw [List.length_append]; simp⟩
        · rw [upd_ne (ne_of_none e hL)]; exact k3 _ _ hc (k2 _ _ hc e)
        · refine rulesAt_keep (fun c xs e => by rw [upd_ne (ne_of e hl3 (by intro z; cases z))]; exact e) (rulesAt_app hR3 hb)
        · rcases List.mem_append.mp hp with z | z
          · exact hok p z
          · rw [List.mem_singleton.mp z]; exact ⟨hr, by show l.length ≤ 3; omega⟩
        · refine List.nodup_append.mpr ⟨hnd, by simp, fun x hx y hy e => ?_⟩
          rw [List.mem_singleton.mp hy] at e
          exact e1 (e ▸ hx)
      · repeat walk_at "W"
        refine ⟨bs, rs, _, _, rfl, k2.trans k3, s3, hl3, hR3, hok, hnd, by omega, fun _ => ?_⟩
        exact List.length_pos_iff.mpr (fun e => by rw [e] at e1; cases e1)
    · rintro σ1 H2 ⟨bs, rs, x3, x4, rfl, k2, s2, hl, hR, hok, hnd, hle, hge⟩
      repeat walk_at "W"
      refine Wp.tupL (SqL.of hl) fun t ht => ?_
      have u3 := Wp.same_upd (o := .tup (bs.map V.ref)) ht
      have hta := src_ne ht s2
      refine q _ t bs rs (k2.trans (Keep.of u3)) (src_same u3 s2) ?_ upd_same (hR.same u3) hok hnd (hge (by omega)) (by omega)
      cases e : H t with
      | none => rfl
      | some o => rw [k2 _ _ hta e] at ht; cases ht
end
end K09
set_option Elab.async false
set_option linter.all false
set_option maxRecDepth 100000
set_option maxHeartbeats 8000000
namespace K09
open PySem PySem.Spec PyProof.Rows L2 Bk
open Wp (Keep)
theorem rulesGo_ok {sg : Str} : ∀ {rs ps : List (Str × Str)} {i : Nat}, (∀ p ∈ rs, RuleOk sg p.1 p.2) → (ps ++ rs).Nodup → rulesGo sg ps (rs.map ruleD) i = .ok (ps ++ rs)
  | [], ps, i, _, _ => by rw [List.append_nil]; rfl
  | (l, r) :: rs, ps, i, h, hn => by
    have h1 : isRule sg (ruleD (l, r)) = true := isRule_ok (l := l) (r := r) rfl (h _ List.mem_cons_self)
    have h2 : (l, r) ∉ ps := fun z => by
      have := List.nodup_append.mp hn
      exact this.2.2 _ z _ List.mem_cons_self rfl
    rw [List.map_cons, rulesGo, if_neg (by rw [h1]; simp)]
    show (if (l, r) ∈ ps then _ else rulesGo sg (ps ++ [(l, r)]) (rs.map ruleD) (i + 1)) = _
    rw [if_neg h2, rulesGo_ok (fun p hp => h p (List.mem_cons_of_mem _ hp)) (by simpa using hn)]
    simp
theorem rulesOf_ok {sg : Str} {rs : List (Str × Str)} (h : ∀ p ∈ rs, RuleOk sg p.1 p.2) (hn : rs.Nodup) (hl : rs.length ≤ 64) : rulesOf sg (.tuple (rs.map ruleD)) = .ok rs := by
  unfold rulesOf
  show (if 64 < (rs.map ruleD).length then _ else _) = _
  rw [if_neg (by rw [List.length_map]; omega), rulesGo_ok h (by simpa using hn)]
  rfl
theorem sm_rules {sg : Str} {rs : List (Str × Str)} (h : ∀ p ∈ rs, RuleOk sg p.1 p.2) : Wp.sm (.tuple (rs.map ruleD)) = true := by
  have : ∀ {rs : List (Str × Str)}, (∀ p ∈ rs, RuleOk sg p.1 p.2) → Wp.smA (rs.map ruleD) = true := by
    intro rs
    induction rs with
    | nil => intro _; rfl
    | cons p rs ih =>
      intro h
      have hp := h p List.mem_cons_self
      show (Wp.sm (ruleD p) && Wp.smA (rs.map ruleD)) = true
      rw [ih fun q hq => h q (List.mem_cons_of_mem _ hq)]
      have h1 := hp.l4
      have h2 := hp.r1
      simp [ruleD, Wp.sm, Wp.smA]; omega
  simpa [Wp.sm] using this h
theorem trk_rules {K : PySem.W.Frag} {H : Hp} {t : Addr} {bs : List Addr} {rs : List (Str × Str)} (ht : H t = some (.tup (bs.map V.ref))) (hR : RulesAt H bs rs) : Trk K H (.ref t) (.tuple (rs.map ruleD)) := fun ds e => by
  cases e
  refine ⟨t, _, rfl, .inr (SqT.of ht), rules_dps hR, fun i l r e => ?_⟩
  rw [List.getElem?_map] at e
  obtain ⟨q, hq, hq2⟩ := Option.map_eq_some_iff.mp e
  obtain ⟨b, h1, h2⟩ := hR.get hq
  obtain ⟨l', r'⟩ := q
  cases hq2
  exact ⟨b, by rw [List.getElem?_map, h1]; rfl, h2⟩
/-- a book is made of the rules of a settled book -/
theorem book_make {K : PySem.W.Frag} {C CS CB t : Addr} {bs : List Addr} {sg : Str} {rs : List (Str × Str)} {G : Hp} {R : Addr → Hp → Prop} {E : XK} (hmn : sg ∈ menu) (ht : G t = some (.tup (bs.map V.ref))) (hR : RulesAt G bs rs) (ok : ∀ p ∈ rs, RuleOk sg p.1 p.2) (nd : rs.Nodup) (hl : rs.length ≤ 64)
    (q : ∀ x H', Same G H' → BookAt C H' x sg rs → R x H') : ∀ x dx, G x = none → G dx = none → dx ≠ x → spBook K C CS CB (.ref x :: ([.str sg, .ref t] ++ [])) (upd (upd G dx (.own x)) x (.ins C dx [])) (fun v H2 => v = .non ∧ R x H2) E := by
  intro p dx hp hdx hne
  have hsl := menu_len sg hmn
  have hgood := good_menu sg hmn
  have sp : Same G (upd (upd G dx (.own p)) p (.ins C dx [])) := fun b o e => by rw [upd_ne (ne_of_none e hp), upd_ne (ne_of_none e hdx)]; exact e
  have hdR : Dp K (upd (upd G dx (.own p)) p (.ins C dx [])) (.ref t) (.tuple (rs.map ruleD)) := .tup (SqT.of (sp _ _ ht)) (rules_dps (hR.same sp))
  refine ⟨p, dx, .str sg, .str sg, .ref t, .tuple (rs.map ruleD), rfl, upd_same, .str sg, (fun z e => by cases e; omega), hdR, sm_rules ok, trk_rules (sp _ _ ht) (hR.same sp), (fun hb => by rw [hgood] at hb; cases hb), fun sg' e _ => ?_⟩
  cases e
  refine ⟨fun ps hps H5 k5 hB => ⟨rfl, ?_⟩, fun i hi => by rw [rulesOf_ok ok nd hl] at hi; cases hi⟩
  rw [rulesOf_ok ok nd hl] at hps; cases hps
  exact q p H5 (fun b o e => k5 b o (ne_of_none e hp) (sp b o e)) hB
end K09
set_option Elab.async false
set_option linter.all false
set_option maxRecDepth 100000
set_option maxHeartbeats 8000000
namespace K09
open PySem PySem.Spec PyProof.Rows L2 Bk
open Wp (Keep wo_lt wo_le wo_gt wo_ge wo_eq wo_ne wo_in wo_nin wo_add wo_mul op_shlB ws_any wc_int wc_isi u65)
abbrev s__law_key : Stmt := topS 115
abbrev N__law_key : List Str := ["_law_text"]
theorem sc__law_key : FnScope N__law_key ["_law_text"] (defScope s__law_key) := ⟨rfl, rfl, rfl, by decide +kernel, rfl, by decide +kernel, by decide +kernel⟩
local macro_rules | `(tactic| walk_at "W") => `(tactic| first
  | (with_reducible first
    | refine Wp.seq ?_ | refine Wp.asg ?_ | refine Wp.ret ?_ | refine Wp.retN ?_ | refine Wp.drop ?_ | refine Wp.nxt ?_ | refine Wp.ifs ?_ | refine Wp.gname ?_
    | refine Wp.op ?_ | refine Wp.un ?_ | refine Wp.tst ?_ | refine Wp.tb' ?_ | refine Wp.tnot ?_ | refine Wp.tand ?_ | refine Wp.tor ?_ | refine Wp.tandV ?_ | refine Wp.torV ?_ | refine Wp.tnotV ?_ | refine Wp.tif ?_ | refine Wp.tchain ?_
    | refine Wp.cb ?_ | refine Wp.call ?_ | refine Wp.cons ?_ | refine Wp.nil ?_ | refine Wp.gsub ?_ | refine Wp.cst ?_ | refine Wp.i0 ?_ | refine Wp.int1 ?_ | refine Wp.eb ?_ | refine Wp.ei ?_
    | refine Wp.gnil ?_ | refine Wp.gcons ?_ | refine Wp.mko ?_ | refine Wp.bm ?_ | refine Wp.ienum ?_ | refine Wp.tru ?_ | refine Wp.u1 ?_ | refine Wp.for_ ?_ | refine Wp.lc ?_ | refine Wp.istr ?_ | refine Wp.ilist ?_ | refine Wp.itup ?_ | refine Wp.irng1 ?_ | refine Wp.irng2 ?_ | refine Wp.yes ?_ | refine Wp.es ?_ | refine Wp.er ?_ | refine Wp.sl ?_ | refine Wp.nopart ?_ | refine Wp.part ?_ | refine Wp.lst ?_ | refine Wp.tup ?_
    | refine Wp.din ?_ | refine Wp.dnotin ?_ | refine Wp.dget ?_ | refine Wp.dget2 ?_ | refine Wp.dput ?_ | refine Wp.dnewK ?_ | refine Wp.dnewT ?_ | refine Wp.bm0 ?_ | refine Wp.m1 ?_ | refine Wp.exs ?_ | refine Wp.is0 ?_ | refine Wp.isnot0 ?_ | refine Wp.fld ?_ | refine Wp.sfld ?_
    | refine Wp.par ?_ | refine Wp.parV ?_ | refine Wp.brk ?_ | refine Wp.aug ?_ | refine Wp.ipaI ?_ | refine Wp.ipsI ?_ | refine Bk.ienumS ?_ | refine Wp.make_ ?_ | refine Wp.itnn ?_ | refine Wp.ltI ?_ | refine Wp.leI ?_ | refine Wp.leS ?_ | refine Wp.inSg ?_ | refine Wp.gtI ?_ | refine Wp.geI ?_ | refine Wp.eqI ?_ | refine Wp.neI ?_ | refine Wp.addI ?_ | refine Wp.ltS ?_ | refine Wp.eqS ?_ | refine Wp.neS ?_)
  | ((with_reducible refine' Wp.var ?hv ?_); (case hv => exact rfl))
  | ((with_reducible refine' Wp.ixl ?hs ?he ?_); (case hs => first | exact SqL.of upd_same | exact SqL.of (by assumption) | assumption); (case he => exact rfl))
  | ((with_reducible refine' Wp.setl ?hs ?he ?_); (case hs => first | exact upd_same | assumption); (case he => exact rfl))
  | ((with_reducible refine' Wp.modP ?hs ?_); (case hs => first | decide | omega))
  | ((with_reducible refine' Wp.divN ?hs ?ht ?_); (case hs => first | decide | omega); (case ht => first | decide | omega))
  | ((with_reducible refine' Wp.mulM ?hs ?ht ?_); (case hs => decide); (case ht => decide))
  | ((with_reducible refine' Wp.mulL ?hs ?_); (case hs => omega))
  | ((with_reducible refine' Wp.mulR ?hs ?_); (case hs => omega))
  | ((with_reducible refine' Wp.powS ?hs ?_); (case hs => decide))
  | ((with_reducible refine' Wp.shr ?hs ?_); (case hs => decide))
  | ((with_reducible refine' Wp.szl ?hs ?_); (case hs => first | decide | (simp; done)))
  | ((with_reducible refine' Wp.lenL ?hs ?_); (case hs => first | exact SqL.of upd_same | exact SqL.of (by assumption) | assumption))
  | ((with_reducible refine' Wp.lenT ?hs ?_); (case hs => first | exact SqT.of upd_same | exact SqT.of (by assumption) | assumption))
  | ((with_reducible refine' Wp.iteC ?hs ?_); (case hs => exact rfl)) | ((with_reducible refine' Wp.iteD ?hs ?_); (case hs => exact Bool.false_ne_true))
  | ((with_reducible refine' Wp.wp ?hs ?_); (case hs => rfl))
  | (with_reducible first | refine Wp.abs ?_ | refine Wp.max2 ?_ | refine Wp.min2 ?_)
  | ((with_reducible refine' Wp.sll ?hs ?_); (case hs => first | exact SqL.of upd_same | exact SqL.of (by assumption) | assumption)))
local macro_rules | `(tactic| walk_at "KQ") => `(tactic| first
  | exact Wp.kq "int" rfl (by decide +kernel) | exact Wp.kq "bool" rfl (by decide +kernel) | exact Wp.kq "str" rfl (by decide +kernel) | exact Wp.kq "list" rfl (by decide +kernel)
  | exact Wp.kq "tuple" rfl (by decide +kernel) | exact Wp.kq "NoneType" rfl (by decide +kernel) | exact Wp.kq "dict" rfl (by decide +kernel))

section
variable {P : Program} {w : World} {K : PySem.W.Frag} {mg : Str → Option Value} {base : Heap}
def spLKey : Sp := fun vs H Q _ => ∃ z, vs = [.str z] ∧ z.length ≤ 1000 ∧ ∀ T, H T = none → Q (.ref T) (upd H T (.tup [.int (z.length : Nat), .str z]))
theorem ok_lkey (B : Wp.Blt mg) {f : Addr} {fd : FuncData} (F : Fun K "_law_key" "_law_key" s__law_key f fd) : FnOk P w K mg base CX0 1 f fd ["_law_text"] spLKey := by
  refine F.ok sc__law_key (fun vs H Q E h => ?_) (fun cdv A outer s H vs Q E hr h => ?_)
  · obtain ⟨z, rfl, _⟩ := h
    rfl
  · obtain ⟨z, rfl, hz, q⟩ := h
    refine ⟨_, (pss_one (ps_ret (pe_tup (pa_cons (pe_callB (Wp.wc_len (K := K)) (by rfl) B.len (by decide +kernel) (pa_cons (pv 0) pa_nil)) (pa_cons (pv 0) pa_nil))))), ?_⟩
    refine Wp.st (σ' := [some (.str z)]) rfl ?_
    repeat walk_at "W"
    refine Wp.lenS (Nat.le_of_lt (small1000 hz)) ?_
    repeat walk_at "W"
    intro T hT
    exact q T hT
end
end K09
set_option Elab.async false
set_option linter.all false
set_option maxRecDepth 100000
set_option maxHeartbeats 8000000
namespace K09
open PySem PySem.Spec PyProof.Rows L2 Bk
open Wp (Keep wo_lt wo_le wo_gt wo_ge wo_eq wo_ne wo_in wo_nin wo_add wo_mul op_shlB ws_any wc_int wc_isi u65)
abbrev s_Book_quarrel : Stmt := inClass (topS 48) 1
abbrev N_Book_quarrel : List Str := ["self"]
theorem sc_Book_quarrel : FnScope N_Book_quarrel ["self"] (defScope s_Book_quarrel) := ⟨rfl, rfl, rfl, by decide +kernel, rfl, by decide +kernel, by decide +kernel⟩
abbrev s_Book___call__ : Stmt := inClass (topS 48) 6
abbrev N_Book___call__ : List Str := ["self", "text"]
abbrev s_checked_book : Stmt := topS 49
abbrev N_checked_book : List Str := ["book"]
theorem sc_checked_book : FnScope N_checked_book ["book"] (defScope s_checked_book) := ⟨rfl, rfl, rfl, by decide +kernel, rfl, by decide +kernel, by decide +kernel⟩
abbrev s_over : Stmt := topS 50
abbrev N_over : List Str := ["book", "text"]
local macro_rules | `(tactic| walk_at "W") => `(tactic| first
  | (with_reducible first
    | refine Wp.seq ?_ | refine Wp.asg ?_ | refine Wp.ret ?_ | refine Wp.retN ?_ | refine Wp.drop ?_ | refine Wp.nxt ?_ | refine Wp.ifs ?_ | refine Wp.gname ?_
    | refine Wp.op ?_ | refine Wp.un ?_ | refine Wp.tst ?_ | refine Wp.tb' ?_ | refine Wp.tnot ?_ | refine Wp.tand ?_ | refine Wp.tor ?_ | refine Wp.tandV ?_ | refine Wp.torV ?_ | refine Wp.tnotV ?_ | refine Wp.tif ?_ | refine Wp.tchain ?_
    | refine Wp.cb ?_ | refine Wp.call ?_ | refine Wp.cons ?_ | refine Wp.nil ?_ | refine Wp.gsub ?_ | refine Wp.cst ?_ | refine Wp.i0 ?_ | refine Wp.int1 ?_ | refine Wp.eb ?_ | refine Wp.ei ?_
    | refine Wp.gnil ?_ | refine Wp.gcons ?_ | refine Wp.mko ?_ | refine Wp.bm ?_ | refine Wp.ienum ?_ | refine Wp.tru ?_ | refine Wp.u1 ?_ | refine Wp.for_ ?_ | refine Wp.lc ?_ | refine Wp.istr ?_ | refine Wp.ilist ?_ | refine Wp.itup ?_ | refine Wp.irng1 ?_ | refine Wp.irng2 ?_ | refine Wp.yes ?_ | refine Wp.es ?_ | refine Wp.er ?_ | refine Wp.sl ?_ | refine Wp.nopart ?_ | refine Wp.part ?_ | refine Wp.lst ?_ | refine Wp.tup ?_
    | refine Wp.din ?_ | refine Wp.dnotin ?_ | refine Wp.dget ?_ | refine Wp.dget2 ?_ | refine Wp.dput ?_ | refine Wp.dnewK ?_ | refine Wp.dnewT ?_ | refine Wp.bm0 ?_ | refine Wp.m1 ?_ | refine Wp.exs ?_ | refine Wp.is0 ?_ | refine Wp.isnot0 ?_ | refine Wp.fld ?_ | refine Wp.sfld ?_
    | refine Wp.par ?_ | refine Wp.parV ?_ | refine Wp.brk ?_ | refine Wp.aug ?_ | refine Wp.ipaI ?_ | refine Wp.ipsI ?_ | refine Bk.ienumS ?_ | refine Wp.make_ ?_ | refine Wp.itnn ?_ | refine Wp.ltI ?_ | refine Wp.leI ?_ | refine Wp.leS ?_ | refine Wp.inSg ?_ | refine Wp.gtI ?_ | refine Wp.geI ?_ | refine Wp.eqI ?_ | refine Wp.neI ?_ | refine Wp.addI ?_ | refine Wp.ltS ?_ | refine Wp.eqS ?_ | refine Wp.neS ?_)
  | ((with_reducible refine' Wp.var ?hv ?_); (case hv => exact rfl))
  | ((with_reducible refine' Wp.ixl ?hs ?he ?_); (case hs => first | exact SqL.of upd_same | exact SqL.of (by assumption) | assumption); (case he => exact rfl))
  | ((with_reducible refine' Wp.setl ?hs ?he ?_); (case hs => first | exact upd_same | assumption); (case he => exact rfl))
  | ((with_reducible refine' Wp.modP ?hs ?_); (case hs => first | decide | omega))
  | ((with_reducible refine' Wp.divN ?hs ?ht ?_); (case hs => first | decide | omega); (case ht => first | decide | omega))
  | ((with_reducible refine' Wp.mulM ?hs ?ht ?_); (case hs => decide); (case ht => decide))
  | ((with_reducible refine' Wp.mulL ?hs ?_); (case hs => omega))
  | ((with_reducible refine' Wp.mulR ?hs ?_); (case hs => omega))
  | ((with_reducible refine' Wp.powS ?hs ?_); (case hs => decide))
  | ((with_reducible refine' Wp.shr ?hs ?_); (case hs => decide))
  | ((with_reducible refine' Wp.szl ?hs ?_); (case hs => first | decide | (simp; done)))
  | ((with_reducible refine' Wp.lenL ?hs ?_); (case hs => first | exact SqL.of upd_same | exact SqL.of (by assumption) | assumption))
  | ((with_reducible refine' Wp.lenT ?hs ?_); (case hs => first | exact SqT.of upd_same | exact SqT.of (by assumption) | assumption))
  | ((with_reducible refine' Wp.iteC ?hs ?_); (case hs => exact rfl)) | ((with_reducible refine' Wp.iteD ?hs ?_); (case hs => exact Bool.false_ne_true))
  | ((with_reducible refine' Wp.wp ?hs ?_); (case hs => rfl))
  | (with_reducible first | refine Wp.abs ?_ | refine Wp.max2 ?_ | refine Wp.min2 ?_)
  | ((with_reducible refine' Wp.sll ?hs ?_); (case hs => first | exact SqL.of upd_same | exact SqL.of (by assumption) | assumption)))
local macro_rules | `(tactic| walk_at "KQ") => `(tactic| first
  | exact Wp.kq "int" rfl (by decide +kernel) | exact Wp.kq "bool" rfl (by decide +kernel) | exact Wp.kq "str" rfl (by decide +kernel) | exact Wp.kq "list" rfl (by decide +kernel)
  | exact Wp.kq "tuple" rfl (by decide +kernel) | exact Wp.kq "NoneType" rfl (by decide +kernel) | exact Wp.kq "dict" rfl (by decide +kernel))

section
variable {P : Program} {w : World} {K : PySem.W.Frag} {mg : Str → Option Value} {base : Heap}
/-- a field of a book is read -/
theorem bk_rules {C : Addr} {H : Hp} {p : Addr} {sg : Str} {rs : List (Str × Str)} {R : V → Prop} (T : BkC K C) (h : BookAt C H p sg rs) (q : ∀ t bs, H t = some (.tup (bs.map V.ref)) → RulesAt H bs rs → R (.ref t)) :
    ∃ a C' dx fs v, V.ref p = .ref a ∧ H a = some (.ins C' dx fs) ∧ Cls K C' ∧ NoAttr K C' "rules" ∧ fs.lookup ("rules" : Str) = some v ∧ R v := by
  obtain ⟨dx, t, bs, d, qv, h1, h2, h3, _⟩ := h.ex
  exact ⟨p, C, dx, _, _, rfl, h1, T.cl, T.nR, bkF_rules _ _ _ _, q t bs h2 h3⟩
theorem bk_signs {C : Addr} {H : Hp} {p : Addr} {sg : Str} {rs : List (Str × Str)} {R : V → Prop} (T : BkC K C) (h : BookAt C H p sg rs) (q : R (.str sg)) :
    ∃ a C' dx fs v, V.ref p = .ref a ∧ H a = some (.ins C' dx fs) ∧ Cls K C' ∧ NoAttr K C' "signs" ∧ fs.lookup ("signs" : Str) = some v ∧ R v := by
  obtain ⟨dx, t, bs, d, qv, h1, h2, h3, _⟩ := h.ex
  exact ⟨p, C, dx, _, _, rfl, h1, T.cl, T.nS, bkF_signs _ _ _ _, q⟩
theorem ok_getq (B : Wp.Blt mg) {f C : Addr} {fd : FuncData} (F : Fun K "quarrel" "Book.quarrel" s_Book_quarrel f fd) (T : BkC K C) : FnOk P w K mg base CX0 1 f fd ["self"] (getSp C "_quarrel") := by
  refine F.ok sc_Book_quarrel (fun vs H Q E h => ?_) (fun cdv A outer s H vs Q E hr h => ?_)
  · obtain ⟨a, dx, fs, v, rfl, _⟩ := h
    rfl
  · obtain ⟨a, dx, fs, v, rfl, ha, hl, q⟩ := h
    refine ⟨_, (pss_one (ps_ret (Wp.wfld (K := K) (pe_fld (pv 0) rfl)))), ?_⟩
    refine Wp.st (σ' := [some (.ref a)]) rfl ?_
    repeat walk_at "W"
    exact ⟨a, C, dx, fs, v, rfl, ha, T.cl, T.nQ, hl, q⟩
/-- book(text): what is left over of it -/
def spCallB (K : PySem.W.Frag) (C CT : Addr) : Sp := fun vs H Q E => ∃ p sg rs v d, vs = [.ref p, v] ∧ BookAt C H p sg rs ∧ Dp K H v d ∧ (∀ z, d = .str z → z.length ≤ 16777216) ∧
  (∀ z, d = .str z → Wp.isText sg 200 d = true → ∀ H', Same H H' → Q (.str (mkS (overP rs (cl z)))) H') ∧
  (Wp.isText sg 200 d = false → ∀ dd H', H dd = none → Same H H' → H' dd = some (.xd [("thing", v)]) → E (.ref CT) (some dd) H')
def spCheckedB (C : Addr) : Sp := fun vs H Q _ => ∃ p sg rs, vs = [.ref p] ∧ BookAt C H p sg rs ∧ Settled rs ∧ ∀ H', Same H H' → Q (.ref p) H'
def spOver (C : Addr) : Sp := fun vs H Q _ => ∃ p sg rs z, vs = [.ref p, .str z] ∧ BookAt C H p sg rs ∧ z.length ≤ 1000 ∧ ∀ H', Same H H' → Q (.str (mkS (overP rs (cl z)))) H'
end
end K09
set_option Elab.async false
set_option linter.all false
set_option maxRecDepth 100000
set_option maxHeartbeats 8000000
namespace K09
open PySem PySem.Spec PyProof.Rows L2 Bk
open Wp (Keep wo_lt wo_le wo_gt wo_ge wo_eq wo_ne wo_in wo_nin wo_add wo_mul op_shlB ws_any wc_int wc_isi u65)
abbrev s_NotSettled___init__ : Stmt := inClass (topS 10) 0
abbrev N_NotSettled___init__ : List Str := ["self", "text"]
theorem sc_NotSettled___init__ : FnScope N_NotSettled___init__ ["self", "text"] (defScope s_NotSettled___init__) := ⟨rfl, rfl, rfl, by decide +kernel, rfl, by decide +kernel, by decide +kernel⟩
local macro_rules | `(tactic| walk_at "W") => `(tactic| first
  | (with_reducible first
    | refine Wp.seq ?_ | refine Wp.asg ?_ | refine Wp.ret ?_ | refine Wp.retN ?_ | refine Wp.drop ?_ | refine Wp.nxt ?_ | refine Wp.ifs ?_ | refine Wp.gname ?_
    | refine Wp.op ?_ | refine Wp.un ?_ | refine Wp.tst ?_ | refine Wp.tb' ?_ | refine Wp.tnot ?_ | refine Wp.tand ?_ | refine Wp.tor ?_ | refine Wp.tandV ?_ | refine Wp.torV ?_ | refine Wp.tnotV ?_ | refine Wp.tif ?_ | refine Wp.tchain ?_
    | refine Wp.cb ?_ | refine Wp.call ?_ | refine Wp.cons ?_ | refine Wp.nil ?_ | refine Wp.gsub ?_ | refine Wp.cst ?_ | refine Wp.i0 ?_ | refine Wp.int1 ?_ | refine Wp.eb ?_ | refine Wp.ei ?_
    | refine Wp.gnil ?_ | refine Wp.gcons ?_ | refine Wp.mko ?_ | refine Wp.bm ?_ | refine Wp.ienum ?_ | refine Wp.tru ?_ | refine Wp.u1 ?_ | refine Wp.for_ ?_ | refine Wp.lc ?_ | refine Wp.istr ?_ | refine Wp.ilist ?_ | refine Wp.itup ?_ | refine Wp.irng1 ?_ | refine Wp.irng2 ?_ | refine Wp.yes ?_ | refine Wp.es ?_ | refine Wp.er ?_ | refine Wp.sl ?_ | refine Wp.nopart ?_ | refine Wp.part ?_ | refine Wp.lst ?_ | refine Wp.tup ?_
    | refine Wp.din ?_ | refine Wp.dnotin ?_ | refine Wp.dget ?_ | refine Wp.dget2 ?_ | refine Wp.dput ?_ | refine Wp.dnewK ?_ | refine Wp.dnewT ?_ | refine Wp.bm0 ?_ | refine Wp.m1 ?_ | refine Wp.exs ?_ | refine Wp.is0 ?_ | refine Wp.isnot0 ?_ | refine Wp.fld ?_ | refine Wp.sfld ?_
    | refine Wp.par ?_ | refine Wp.parV ?_ | refine Wp.brk ?_ | refine Wp.aug ?_ | refine Wp.ipaI ?_ | refine Wp.ipsI ?_ | refine Bk.ienumS ?_ | refine Wp.make_ ?_ | refine Wp.itnn ?_ | refine Wp.ltI ?_ | refine Wp.leI ?_ | refine Wp.leS ?_ | refine Wp.inSg ?_ | refine Wp.gtI ?_ | refine Wp.geI ?_ | refine Wp.eqI ?_ | refine Wp.neI ?_ | refine Wp.addI ?_ | refine Wp.ltS ?_ | refine Wp.eqS ?_ | refine Wp.neS ?_)
  | ((with_reducible refine' Wp.var ?hv ?_); (case hv => exact rfl))
  | ((with_reducible refine' Wp.ixl ?hs ?he ?_); (case hs => first | exact SqL.of upd_same | exact SqL.of (by assumption) | assumption); (case he => exact rfl))
  | ((with_reducible refine' Wp.setl ?hs ?he ?_); (case hs => first | exact upd_same | assumption); (case he => exact rfl))
  | ((with_reducible refine' Wp.modP ?hs ?_); (case hs => first | decide | omega))
  | ((with_reducible refine' Wp.divN ?hs ?ht ?_); (case hs => first | decide | omega); (case ht => first | decide | omega))
  | ((with_reducible refine' Wp.mulM ?hs ?ht ?_); (case hs => decide); (case ht => decide))
  | ((with_reducible refine' Wp.mulL ?hs ?_); (case hs => omega))
  | ((with_reducible refine' Wp.mulR ?hs ?_); (case hs => omega))
  | ((with_reducible refine' Wp.powS ?hs ?_); (case hs => decide))
  | ((with_reducible refine' Wp.shr ?hs ?_); (case hs => decide))
  | ((with_reducible refine' Wp.szl ?hs ?_); (case hs => first | decide | (simp; done)))
  | ((with_reducible refine' Wp.lenL ?hs ?_); (case hs => first | exact SqL.of upd_same | exact SqL.of (by assumption) | assumption))
  | ((with_reducible refine' Wp.lenT ?hs ?_); (case hs => first | exact SqT.of upd_same | exact SqT.of (by assumption) | assumption))
  | ((with_reducible refine' Wp.iteC ?hs ?_); (case hs => exact rfl)) | ((with_reducible refine' Wp.iteD ?hs ?_); (case hs => exact Bool.false_ne_true))
  | ((with_reducible refine' Wp.wp ?hs ?_); (case hs => rfl))
  | (with_reducible first | refine Wp.abs ?_ | refine Wp.max2 ?_ | refine Wp.min2 ?_)
  | ((with_reducible refine' Wp.sll ?hs ?_); (case hs => first | exact SqL.of upd_same | exact SqL.of (by assumption) | assumption)))
local macro_rules | `(tactic| walk_at "KQ") => `(tactic| first
  | exact Wp.kq "int" rfl (by decide +kernel) | exact Wp.kq "bool" rfl (by decide +kernel) | exact Wp.kq "str" rfl (by decide +kernel) | exact Wp.kq "list" rfl (by decide +kernel)
  | exact Wp.kq "tuple" rfl (by decide +kernel) | exact Wp.kq "NoneType" rfl (by decide +kernel) | exact Wp.kq "dict" rfl (by decide +kernel))

section
variable {P : Program} {w : World} {K : PySem.W.Frag} {mg : Str → Option Value} {base : Heap}
theorem ok_initNS {f : Addr} {fd : FuncData} (F : Fun K "__init__" "NotSettled.__init__" s_NotSettled___init__ f fd) : FnOk P w K mg base CX0 1 f fd ["self", "text"] (Wp.spInit K "text") := by
  refine F.ok sc_NotSettled___init__ (fun vs H Q E h => ?_) (fun cdv A outer s H vs Q E hr h => ?_)
  · obtain ⟨a, C, y, rfl, _⟩ := h
    rfl
  · obtain ⟨a, C, y, rfl, hO, hno, ha, q⟩ := h
    refine ⟨_, pss_one (ps_ost (pv 0) (pv 1)), ?_⟩
    exact ⟨y, rfl, .ref a, rfl, a, C, rfl, hO, hno, .inl ⟨ha, fun dx hdx hne => q dx hdx hne⟩⟩
/-- a book that is asked to be settled -/
def spCheckedX (C CN : Addr) : Sp := fun vs H Q E => ∃ p sg rs, vs = [.ref p] ∧ BookAt C H p sg rs ∧
  ∀ os v, OvSorted os (ovAll rs) → QuarAt rs os v → (v = .non → Q (.ref p) H) ∧ (v ≠ .non → ∀ dd H', H dd = none → Same H H' → H' dd = some (.xd [("text", v)]) → E (.ref CN) (some dd) H')
theorem ok_checkedX (B : Wp.Blt mg) {f fq pq C CN fI : Addr} {fd fdq fdI : FuncData} (F : Fun K "checked_book" "checked_book" s_checked_book f fd) (T : BkC K C) (Pq : PropOf K C "quarrel" pq fq)
    (Gq : FnOk P w K mg base CX0 1 fq fdq ["self"] (getSp C "_quarrel")) (bq : Binds K fdq ["self"] [])
    (T_NotSettled : Wp.ExT K mg "NotSettled" CN fI "text") (G_NotSettled : FnOk P w K mg base CX0 1 fI fdI ["self", "text"] (Wp.spInit K "text")) (b_NotSettled : Binds K fdI ["self", "text"] []) : FnOk P w K mg base (L2.CX P w) 3 f fd ["book"] (spCheckedX C CN) := by
  refine F.okX sc_checked_book (fun vs H Q E h => ?_) (fun cdv A outer s H vs Q E hr h => ?_)
  · obtain ⟨p, sg, rs, rfl, _⟩ := h
    rfl
  · obtain ⟨p, sg, rs, rfl, hB, q⟩ := h
    refine ⟨_, (pss_cons (ps_if (pt_cmpR Wp.wo_isnot (pe_prop (pv 0) T.cl Pq Gq (hr.mono (by decide)) bq .nil pass0 rfl) pe_non (nomark _)) (pss_one (ps_raise rfl (takes_of rfl rfl rfl rfl) (pmk_oex T_NotSettled.O T_NotSettled.iC T_NotSettled.tI G_NotSettled (hr.mono (by decide)) b_NotSettled .nil pass0 (by rfl) T_NotSettled.g (pa_cons (pe_prop (pv 0) T.cl Pq Gq (hr.mono (by decide)) bq .nil pass0 rfl) pa_nil)))) pss_nil)
  (pss_one (ps_ret (pv 0)))), ?_⟩
    refine Wp.st (σ' := [some (.ref p)]) rfl ?_
    obtain ⟨dx, t, bs, d, qv, h1, h2, h3, h4, os, h5, h6⟩ := hB.ex
    obtain ⟨q1, q2⟩ := q os qv h5 h6
    repeat walk_at "W"
    refine ⟨.ref p, rfl, p, dx, _, rfl, h1, p, dx, _, qv, rfl, h1, bkF_quarrel _ _ _ _, ?_⟩
    repeat walk_at "W"
    by_cases e : qv = .non
    · subst e
      repeat walk_at "W"
      exact q1 rfl
    · refine Wp.iteC (by simp [e]) ?_
      repeat walk_at "W"
      refine ⟨.ref p, rfl, p, dx, _, rfl, h1, p, dx, _, qv, rfl, h1, bkF_quarrel _ _ _ _, ?_⟩
      repeat walk_at "W"
      exact Wp.mki T_NotSettled fun dd H'' h1 h2 h3 => q2 e dd H'' h1 h2 h3
end
end K09
set_option Elab.async false
set_option linter.all false
set_option maxRecDepth 100000
set_option maxHeartbeats 8000000
namespace K09
open PySem PySem.Spec PyProof.Rows L2 Bk
open Wp (Keep wo_lt wo_le wo_gt wo_ge wo_eq wo_ne wo_in wo_nin wo_add wo_mul op_shlB ws_any wc_int wc_isi u65)
abbrev s_ascending_texts : Stmt := topS 24
abbrev N_ascending_texts : List Str := ["texts", "_", "text"]
theorem sc_ascending_texts : FnScope N_ascending_texts ["texts"] (defScope s_ascending_texts) := ⟨rfl, rfl, rfl, by decide +kernel, rfl, by decide +kernel, by decide +kernel⟩
local macro_rules | `(tactic| walk_at "W") => `(tactic| first
  | (with_reducible first
    | refine Wp.seq ?_ | refine Wp.asg ?_ | refine Wp.ret ?_ | refine Wp.retN ?_ | refine Wp.drop ?_ | refine Wp.nxt ?_ | refine Wp.ifs ?_ | refine Wp.gname ?_
    | refine Wp.op ?_ | refine Wp.un ?_ | refine Wp.tst ?_ | refine Wp.tb' ?_ | refine Wp.tnot ?_ | refine Wp.tand ?_ | refine Wp.tor ?_ | refine Wp.tandV ?_ | refine Wp.torV ?_ | refine Wp.tnotV ?_ | refine Wp.tif ?_ | refine Wp.tchain ?_
    | refine Wp.cb ?_ | refine Wp.call ?_ | refine Wp.cons ?_ | refine Wp.nil ?_ | refine Wp.gsub ?_ | refine Wp.cst ?_ | refine Wp.i0 ?_ | refine Wp.int1 ?_ | refine Wp.eb ?_ | refine Wp.ei ?_
    | refine Wp.gnil ?_ | refine Wp.gcons ?_ | refine Wp.mko ?_ | refine Wp.bm ?_ | refine Wp.ienum ?_ | refine Wp.tru ?_ | refine Wp.u1 ?_ | refine Wp.for_ ?_ | refine Wp.lc ?_ | refine Wp.istr ?_ | refine Wp.ilist ?_ | refine Wp.itup ?_ | refine Wp.irng1 ?_ | refine Wp.irng2 ?_ | refine Wp.yes ?_ | refine Wp.es ?_ | refine Wp.er ?_ | refine Wp.sl ?_ | refine Wp.nopart ?_ | refine Wp.part ?_ | refine Wp.lst ?_ | refine Wp.tup ?_
    | refine Wp.din ?_ | refine Wp.dnotin ?_ | refine Wp.dget ?_ | refine Wp.dget2 ?_ | refine Wp.dput ?_ | refine Wp.dnewK ?_ | refine Wp.dnewT ?_ | refine Wp.bm0 ?_ | refine Wp.m1 ?_ | refine Wp.exs ?_ | refine Wp.is0 ?_ | refine Wp.isnot0 ?_ | refine Wp.fld ?_ | refine Wp.sfld ?_
    | refine Wp.par ?_ | refine Wp.parV ?_ | refine Wp.brk ?_ | refine Wp.aug ?_ | refine Wp.ipaI ?_ | refine Wp.ipsI ?_ | refine Bk.ienumS ?_ | refine Wp.make_ ?_ | refine Wp.itnn ?_ | refine Wp.ltI ?_ | refine Wp.leI ?_ | refine Wp.leS ?_ | refine Wp.inSg ?_ | refine Wp.gtI ?_ | refine Wp.geI ?_ | refine Wp.eqI ?_ | refine Wp.neI ?_ | refine Wp.addI ?_ | refine Wp.ltS ?_ | refine Wp.eqS ?_ | refine Wp.neS ?_)
  | ((with_reducible refine' Wp.var ?hv ?_); (case hv => exact rfl))
  | ((with_reducible refine' Wp.ixl ?hs ?he ?_); (case hs => first | exact SqL.of upd_same | exact SqL.of (by assumption) | assumption); (case he => exact rfl))
  | ((with_reducible refine' Wp.setl ?hs ?he ?_); (case hs => first | exact upd_same | assumption); (case he => exact rfl))
  | ((with_reducible refine' Wp.modP ?hs ?_); (case hs => first | decide | omega))
  | ((with_reducible refine' Wp.divN ?hs ?ht ?_); (case hs => first | decide | omega); (case ht => first | decide | omega))
  | ((with_reducible refine' Wp.mulM ?hs ?ht ?_); (case hs => decide); (case ht => decide))
  | ((with_reducible refine' Wp.mulL ?hs ?_); (case hs => omega))
  | ((with_reducible refine' Wp.mulR ?hs ?_); (case hs => omega))
  | ((with_reducible refine' Wp.powS ?hs ?_); (case hs => decide))
  | ((with_reducible refine' Wp.shr ?hs ?_); (case hs => decide))
  | ((with_reducible refine' Wp.szl ?hs ?_); (case hs => first | decide | (simp; done)))
  | ((with_reducible refine' Wp.lenL ?hs ?_); (case hs => first | exact SqL.of upd_same | exact SqL.of (by assumption) | assumption))
  | ((with_reducible refine' Wp.lenT ?hs ?_); (case hs => first | exact SqT.of upd_same | exact SqT.of (by assumption) | assumption))
  | ((with_reducible refine' Wp.iteC ?hs ?_); (case hs => exact rfl)) | ((with_reducible refine' Wp.iteD ?hs ?_); (case hs => exact Bool.false_ne_true))
  | ((with_reducible refine' Wp.wp ?hs ?_); (case hs => rfl))
  | (with_reducible first | refine Wp.abs ?_ | refine Wp.max2 ?_ | refine Wp.min2 ?_)
  | ((with_reducible refine' Wp.sll ?hs ?_); (case hs => first | exact SqL.of upd_same | exact SqL.of (by assumption) | assumption)))
local macro_rules | `(tactic| walk_at "KQ") => `(tactic| first
  | exact Wp.kq "int" rfl (by decide +kernel) | exact Wp.kq "bool" rfl (by decide +kernel) | exact Wp.kq "str" rfl (by decide +kernel) | exact Wp.kq "list" rfl (by decide +kernel)
  | exact Wp.kq "tuple" rfl (by decide +kernel) | exact Wp.kq "NoneType" rfl (by decide +kernel) | exact Wp.kq "dict" rfl (by decide +kernel))

section
variable {P : Program} {w : World} {K : PySem.W.Frag} {mg : Str → Option Value} {base : Heap}
def spAsc (K : PySem.W.Frag) : Sp := fun vs H Q _ => ∃ a xs, vs = [.ref a] ∧ SqL K H a (tx xs) ∧ (∀ x ∈ xs, x.length ≤ 1000) ∧ xs.length ≤ 20000 ∧ ∀ H' t, Same H H' → H t = none → H' t = some (.tup (tx (asc xs))) → Q (.ref t) H'
theorem ok_asc (B : Wp.Blt mg) {f : Addr} {fd : FuncData} (F : Fun K "ascending_texts" "ascending_texts" s_ascending_texts f fd) : FnOk P w K mg base CX0 1 f fd ["texts"] (spAsc K) := by
  refine F.ok sc_ascending_texts (fun vs H Q E h => ?_) (fun cdv A outer s H vs Q E hr h => ?_)
  · obtain ⟨a, xs, rfl, _⟩ := h
    rfl
  · obtain ⟨a, xs, rfl, ha, hz, hl, q⟩ := h
    refine ⟨_, (pss_one (ps_ret (pe_callTy (Wp.wc_tuple (K := K)) (by rfl) B.tuple (by decide +kernel) (pa_cons (pe_lc (own := [("_", 1), ("text", 2)]) (g := (Wp.gTupU K 2 (gCons (gName 1) (gCons (gName 2) gNil)))) (by rfl) sc_ascending_texts.nd (Wp.wi_list (K := K) (pe_callB (Wp.wc_sorted (K := K) (u65 hr)) (by rfl) B.sorted (by decide +kernel) (pa_cons (pe_lc (own := [("text", 2)]) (g := gName 2) (by rfl) sc_ascending_texts.nd (Wp.wi_list (K := K) (pv 0)) (blkOk_by (own := [("text", 2)]) (N := N_ascending_texts) (sc := defScope s_ascending_texts) (by decide +kernel)) (fun _ _ _ _ _ => pg_name (i := 2) sc_ascending_texts.nd rfl (Or.inl rfl)) (fun _ _ _ _ _ => pts_nil) (fun _ _ _ _ _ => (pe_tup (pa_cons (pe_callB (Wp.wc_len (K := K)) (by rfl) B.len (by decide +kernel) (pa_cons (pv 2) pa_nil)) (pa_cons (pv 2) pa_nil))))) pa_nil))) (blkOk_by (own := [("_", 1), ("text", 2)]) (N := N_ascending_texts) (sc := defScope s_ascending_texts) (by decide +kernel)) (fun _ _ _ _ _ => Wp.wg_tup (K := K) (n := 2) rfl (pgs_cons (pg_name (i := 1) sc_ascending_texts.nd rfl (Or.inl rfl)) (pgs_cons (pg_name (i := 2) sc_ascending_texts.nd rfl (Or.inl rfl)) pgs_nil))) (fun _ _ _ _ _ => pts_nil) (fun _ _ _ _ _ => (pv 2))) pa_nil)))), ?_⟩
    refine Wp.st (σ' := [some (.ref a), none, none]) rfl ?_
    have hbig : (1000000 : Nat) < sizeLine := by decide
    repeat walk_at "W"
    refine ⟨⟨_, ha⟩, fun A hA => ?_⟩
    have up : ∀ {G : Hp} {D : Addr} (o : HO), H D = none → Same H G → Same H (upd G D o) := fun o h s b u e => by rw [upd_ne (ne_of_none e h)]; exact s _ _ e
    refine Wp.lcIt (walk_list (xs := tx xs)) (fun i H1 => Same H H1 ∧ ∃ ws : List V, H1 A = some (.lst ws) ∧ DpAll K H1 ws (((xs.take i).map mkS).map tx2)) ⟨Wp.same_upd hA, [], upd_same, .nil⟩ (fun i H1 _ h => h.1.seq ha) ?_ ?_
    · rintro i x H1 H1' hi ⟨s1, ws, h1, h2⟩ ⟨rfl, hx⟩
      rw [List.getElem?_map] at hx
      obtain ⟨u, hu, rfl⟩ := Option.map_eq_some_iff.mp hx
      have hul := hz u (List.mem_of_getElem? hu)
      have hiu := (List.getElem?_eq_some_iff.mp hu).1
      have hwl := Wp.dps_len h2
      rw [List.length_map, List.length_map, List.length_take] at hwl
      repeat walk_at "W"
      refine Wp.lenS (Nat.le_of_lt (by rw [len_mk]; omega)) ?_
      repeat walk_at "W"
      intro T hT
      have hTA : T ≠ A := fun z => by rw [z, h1] at hT; cases hT
      have u1 := Wp.same_upd (o := .tup [.int ((mkS u).length : Nat), .str (mkS u)]) hT
      refine ⟨ws, u1 _ _ h1, by omega, up _ hA (s1.trans u1), _, upd_same, ?_⟩
      rw [List.take_add_one, hu, List.map_append, List.map_append]
      refine Wp.dps_append (Wp.dps_upd (u1 _ _ h1) _ _ ?_ (Wp.dps_same u1 _ _ h2)) (.cons (Wp.dp_upd (u1 _ _ h1) _ _ rfl (.tup (SqT.of upd_same) (.cons (.int _) (.cons (.str _) .nil)))) .nil)
      exact tx2s_no _
    · rintro H1 ⟨s1, ws, h1, h2⟩
      rw [List.length_map, List.take_length] at h2
      have hwl := Wp.dps_len h2
      rw [List.length_map, List.length_map] at hwl
      repeat walk_at "W"
      refine ⟨A, ws, _, rfl, SqL.of h1, h2, tx2_alike _, tx2_sortable _, (fun d hd => by obtain ⟨o, _, rfl⟩ := List.mem_map.mp hd; exact tx2_depth o), fun zs p hperm hzs hp => ?_⟩
      have hps := s1.free hp
      have u1 := Wp.same_upd (o := .lst (zs.map (·.1))) hp
      have hzl : zs.length = xs.length := by rw [hperm.length_eq, List.length_zip, List.length_map, List.length_map]; omega
      have hzm := tx_sorted (xs := xs.map mkS) (ws := ws) (by rw [List.length_map]; exact hwl)
      rw [← hzs, List.map_map, show (cl ∘ mkS) = id from funext fun y => cl_mk y, List.map_id] at hzm
      refine ⟨p, rfl, ⟨_, SqL.of upd_same⟩, fun A2 hA2 => ?_⟩
      have hA20 : H A2 = none := by
        rcases Decidable.em (A2 = p) with z | z
        · rw [z]; exact hps
        · rw [upd_ne z] at hA2; exact s1.free hA2
      have hAp : A2 ≠ p := fun z => by rw [z, upd_same] at hA2; cases hA2
      refine Wp.lcIt (walk_list (xs := zs.map (·.1))) (fun i H2 => Same (upd H1 p (.lst (zs.map (·.1)))) H2 ∧ H2 A2 = some (.lst (tx ((asc xs).take i)))) ⟨Wp.same_upd hA2, upd_same⟩ (fun i H2 _ h => SqL.of (h.1 _ _ upd_same)) ?_ ?_
      · rintro i x H2 H2' hi ⟨s2, h3⟩ ⟨rfl, hx⟩
        rw [List.length_map] at hi
        rw [List.getElem?_map] at hx
        obtain ⟨qz, hqz, rfl⟩ := Option.map_eq_some_iff.mp hx
        have hmem := hperm.mem_iff.mp (List.mem_of_getElem? hqz)
        have hdq := Wp.dp_same (u1.trans s2) _ _ (dps_zip h2 _ hmem)
        obtain ⟨z, _, ez⟩ := List.mem_map.mp (List.of_mem_zip (show (qz.1, qz.2) ∈ ws.zip ((xs.map mkS).map tx2) from hmem)).2
        have hat : (asc xs)[i]? = some (cl z) := by
          rw [← hzm, List.getElem?_map, hqz]
          show some (dec2 qz.2) = _
          rw [← ez]; rfl
        rw [← ez] at hdq
        generalize qz.1 = xv at hdq ⊢
        cases hdq with
        | @tup a ys _ hs ha2 =>
        cases ha2 with
        | cons a1 ha2 =>
        cases ha2 with
        | cons a2 ha2 =>
        cases ha2; cases a1; cases a2
        refine Wp.gt hs rfl ?_
        repeat walk_at "W"
        refine ⟨_, h3, by rw [List.length_map, List.length_take]; omega, fun b u e => ?_, ?_⟩
        · rw [upd_ne (ne_of_none e hA2)]; exact s2 _ _ e
        · rw [upd_same, List.take_add_one, hat, tx_app]; simp [tx, mk_cl]
      · rintro H2 ⟨s2, h3⟩
        have hal : (asc xs).length = xs.length := (asc_perm xs).length_eq
        rw [List.length_map, hzl, ← hal, List.take_length] at h3
        repeat walk_at "W"
        refine Wp.tupL (SqL.of h3) fun t ht => ?_
        have s3 := (s1.trans u1).trans s2
        exact q _ t (s3.trans (Wp.same_upd ht)) (s3.free ht) upd_same
end
end K09
set_option Elab.async false
set_option linter.all false
set_option maxRecDepth 100000
set_option maxHeartbeats 8000000
namespace K09
open PySem PySem.Spec PyProof.Rows L2 Bk
open Wp (Keep wo_lt wo_le wo_gt wo_ge wo_eq wo_ne wo_in wo_nin wo_add wo_mul op_shlB ws_any wc_int wc_isi u65)
abbrev s_numbers_of : Stmt := topS 37
abbrev N_numbers_of : List Str := ["rules", "found", "number", "left", "_"]
theorem sc_numbers_of : FnScope N_numbers_of ["rules"] (defScope s_numbers_of) := ⟨rfl, rfl, rfl, by decide +kernel, rfl, by decide +kernel, by decide +kernel⟩
abbrev s_steps_of : Stmt := topS 44
abbrev N_steps_of : List Str := ["numbers", "text", "found", "place", "here", "size", "number"]
theorem sc_steps_of : FnScope N_steps_of ["numbers", "text"] (defScope s_steps_of) := ⟨rfl, rfl, rfl, by decide +kernel, rfl, by decide +kernel, by decide +kernel⟩




local macro_rules | `(tactic| walk_at "W") => `(tactic| first
  | (with_reducible first
    | refine Wp.seq ?_ | refine Wp.asg ?_ | refine Wp.ret ?_ | refine Wp.retN ?_ | refine Wp.drop ?_ | refine Wp.nxt ?_ | refine Wp.ifs ?_ | refine Wp.gname ?_
    | refine Wp.op ?_ | refine Wp.un ?_ | refine Wp.tst ?_ | refine Wp.tb' ?_ | refine Wp.tnot ?_ | refine Wp.tand ?_ | refine Wp.tor ?_ | refine Wp.tandV ?_ | refine Wp.torV ?_ | refine Wp.tnotV ?_ | refine Wp.tif ?_ | refine Wp.tchain ?_
    | refine Wp.cb ?_ | refine Wp.call ?_ | refine Wp.cons ?_ | refine Wp.nil ?_ | refine Wp.gsub ?_ | refine Wp.cst ?_ | refine Wp.i0 ?_ | refine Wp.int1 ?_ | refine Wp.eb ?_ | refine Wp.ei ?_
    | refine Wp.gnil ?_ | refine Wp.gcons ?_ | refine Wp.mko ?_ | refine Wp.bm ?_ | refine Wp.ienum ?_ | refine Wp.tru ?_ | refine Wp.u1 ?_ | refine Wp.for_ ?_ | refine Wp.lc ?_ | refine Wp.istr ?_ | refine Wp.ilist ?_ | refine Wp.itup ?_ | refine Wp.irng1 ?_ | refine Wp.irng2 ?_ | refine Wp.yes ?_ | refine Wp.es ?_ | refine Wp.er ?_ | refine Wp.sl ?_ | refine Wp.nopart ?_ | refine Wp.part ?_ | refine Wp.lst ?_ | refine Wp.tup ?_
    | refine Wp.din ?_ | refine Wp.dnotin ?_ | refine Wp.dget ?_ | refine Wp.dget2 ?_ | refine Wp.dput ?_ | refine Wp.dnewK ?_ | refine Wp.dnewT ?_ | refine Wp.bm0 ?_ | refine Wp.m1 ?_ | refine Wp.exs ?_ | refine Wp.is0 ?_ | refine Wp.isnot0 ?_ | refine Wp.fld ?_ | refine Wp.sfld ?_
    | refine Wp.par ?_ | refine Wp.parV ?_ | refine Wp.brk ?_ | refine Wp.aug ?_ | refine Wp.ipaI ?_ | refine Wp.ipsI ?_ | refine Bk.ienumS ?_ | refine Wp.make_ ?_ | refine Wp.itnn ?_ | refine Wp.ltI ?_ | refine Wp.leI ?_ | refine Wp.leS ?_ | refine Wp.inSg ?_ | refine Wp.gtI ?_ | refine Wp.geI ?_ | refine Wp.eqI ?_ | refine Wp.neI ?_ | refine Wp.addI ?_ | refine Wp.ltS ?_ | refine Wp.eqS ?_ | refine Wp.neS ?_)
  | ((with_reducible refine' Wp.var ?hv ?_); (case hv => exact rfl))
  | ((with_reducible refine' Wp.ixl ?hs ?he ?_); (case hs => first | exact SqL.of upd_same | exact SqL.of (by assumption) | assumption); (case he => exact rfl))
  | ((with_reducible refine' Wp.setl ?hs ?he ?_); (case hs => first | exact upd_same | assumption); (case he => exact rfl))
  | ((with_reducible refine' Wp.modP ?hs ?_); (case hs => first | decide | omega))
  | ((with_reducible refine' Wp.divN ?hs ?ht ?_); (case hs => first | decide | omega); (case ht => first | decide | omega))
  | ((with_reducible refine' Wp.mulM ?hs ?ht ?_); (case hs => decide); (case ht => decide))
  | ((with_reducible refine' Wp.mulL ?hs ?_); (case hs => omega))
  | ((with_reducible refine' Wp.mulR ?hs ?_); (case hs => omega))
  | ((with_reducible refine' Wp.powS ?hs ?_); (case hs => decide))
  | ((with_reducible refine' Wp.shr ?hs ?_); (case hs => decide))
  | ((with_reducible refine' Wp.szl ?hs ?_); (case hs => first | decide | (simp; done)))
  | ((with_reducible refine' Wp.lenL ?hs ?_); (case hs => first | exact SqL.of upd_same | exact SqL.of (by assumption) | assumption))
  | ((with_reducible refine' Wp.lenT ?hs ?_); (case hs => first | exact SqT.of upd_same | exact SqT.of (by assumption) | assumption))
  | ((with_reducible refine' Wp.iteC ?hs ?_); (case hs => exact rfl)) | ((with_reducible refine' Wp.iteD ?hs ?_); (case hs => exact Bool.false_ne_true))
  | ((with_reducible refine' Wp.wp ?hs ?_); (case hs => rfl))
  | (with_reducible first | refine Wp.abs ?_ | refine Wp.max2 ?_ | refine Wp.min2 ?_)
  | ((with_reducible refine' Wp.sll ?hs ?_); (case hs => first | exact SqL.of upd_same | exact SqL.of (by assumption) | assumption)))
local macro_rules | `(tactic| walk_at "KQ") => `(tactic| first
  | exact Wp.kq "int" rfl (by decide +kernel) | exact Wp.kq "bool" rfl (by decide +kernel) | exact Wp.kq "str" rfl (by decide +kernel) | exact Wp.kq "list" rfl (by decide +kernel)
  | exact Wp.kq "tuple" rfl (by decide +kernel) | exact Wp.kq "NoneType" rfl (by decide +kernel) | exact Wp.kq "dict" rfl (by decide +kernel))

section
variable {P : Program} {w : World} {K : PySem.W.Frag} {mg : Str → Option Value} {base : Heap}
def spNums (K : PySem.W.Frag) : Sp := fun vs H Q _ => ∃ t bs rs, vs = [.ref t] ∧ H t = some (.tup (bs.map V.ref)) ∧ RulesAt H bs rs ∧ rs.length ≤ 64 ∧ ∀ H' d, Same H H' → NumsAt K H' d rs → Q (.ref d) H'
theorem ok_nums (B : Wp.Blt mg) {f : Addr} {fd : FuncData} (F : Fun K "numbers_of" "numbers_of" s_numbers_of f fd) : FnOk P w K mg base CX0 1 f fd ["rules"] (spNums K) := by
  refine F.ok sc_numbers_of (fun vs H Q E h => ?_) (fun cdv A outer s H vs Q E hr h => ?_)
  · obtain ⟨t, bs, rs, rfl, _⟩ := h
    rfl
  · obtain ⟨t, bs, rs, rfl, ht, hb, hl, q⟩ := h
    refine ⟨_, (pss_cons (ps_set (i := 1) sc_numbers_of.nd rfl (by first | exact .inl rfl | exact .inr rfl) pe_dnewK)
  (pss_cons (ps_for PassesOwn.never rfl (Wp.wi_enum (K := K) (by rfl) B.enumerate (pa_cons (pv 0) pa_nil)) (Wp.wg_tup (K := K) (n := 2) rfl (pgs_cons (pg_name (i := 2) sc_numbers_of.nd rfl (by first | exact .inl rfl | exact .inr rfl)) (pgs_cons (Wp.wg_tup (K := K) (n := 2) rfl (pgs_cons (pg_name (i := 3) sc_numbers_of.nd rfl (by first | exact .inl rfl | exact .inr rfl)) (pgs_cons (pg_name (i := 4) sc_numbers_of.nd rfl (by first | exact .inl rfl | exact .inr rfl)) pgs_nil))) pgs_nil))) (pss_one (ps_dput (hu_of hr) (pv 1) (pv 3) (pe_op (wo_add (K := K)) (pe_dget2 (hu_of hr) (pv 1) (pv 3) (pe_tup pa_nil) ⟨rfl, rfl, rfl, rfl⟩) (pe_tup (pa_cons (pv 2) pa_nil))) rfl)))
  (pss_one (ps_ret (pv 1))))), ?_⟩
    refine Wp.st (σ' := [some (.ref t), none, none, none, none]) rfl ?_
    repeat walk_at "W"
    intro D hD
    have sD := Wp.same_upd (o := .dK []) hD
    have hbl := hb.len
    repeat walk_at "W"
    refine ⟨t, bs.map V.ref, rfl, Wp.enumU (.inr (SqT.of ht)) sD (fun i σ1 H1 => ∃ x2 x3 x4, σ1 = [some (.ref t), some (.ref D), x2, x3, x4] ∧ Same H H1 ∧ NumsAt K H1 D (rs.take i)) ⟨_, _, _, rfl, sD, ⟨[], upd_same, by simp, fun x => rfl⟩⟩ (fun i σ1 H1 ⟨_, _, _, _, h, _⟩ => h) ?_ ?_⟩
    · rintro i x σ1 H1 T hx ⟨x2, x3, x4, rfl, s1, hR⟩ hT
      obtain ⟨b, ⟨l, r⟩, rfl, hp, hbt⟩ := rulesAt_take hb hx
      replace hbt : H b = some (.tup [.str l, .str r]) := hbt
      have smT := Wp.same_upd (p := T) (o := .tup [.int (i : Nat), .ref b]) hT
      have sT := s1.trans smT
      have hi := (List.getElem?_eq_some_iff.mp hp).1
      have hlt : (rs.take i).length = i := by rw [List.length_take]; omega
      have htk : rs.take (i + 1) = rs.take i ++ [(l, r)] := by rw [List.take_add_one, hp]; rfl
      refine Wp.gt (SqT.of upd_same) rfl ?_
      repeat walk_at "W"
      refine Wp.gt (SqT.of (sT _ _ hbt)) rfl ?_
      repeat walk_at "W"
      have hN := hR.same smT
      generalize upd H1 T (.tup [.int (i : Nat), .ref b]) = H2 at sT hN ⊢
      obtain ⟨kvs, h1, h2, h3⟩ := hN.ex
      refine ⟨.inl ⟨kvs, .inl h1⟩, ?_⟩
      repeat walk_at "W"
      intro E0 hE0
      have u1 := Wp.same_upd (o := .tup []) hE0
      repeat walk_at "W"
      refine ⟨_, DGet.k (k := Sum.inr l) (u1 _ _ h1), ?_⟩
      have hv : ∃ b0, (valV kvs (Sum.inr l)).getD (.ref E0) = .ref b0 ∧ SqT K (upd H2 E0 (.tup [])) b0 ((numsOf (rs.take i) l).map nv) := by
        have := h3 l
        cases hq : valV kvs (Sum.inr l) with
        | none =>
          rw [hq] at this
          exact ⟨E0, rfl, by rw [show numsOf (rs.take i) l = [] from this]; exact SqT.of upd_same⟩
        | some v =>
          rw [hq] at this
          obtain ⟨b0, rfl, hb0⟩ := this
          exact ⟨b0, rfl, Wp.sameT u1 hb0⟩
      obtain ⟨b0, hv1, hv2⟩ := hv
      rw [hv1]
      have hnl : (numsOf (rs.take i) l).length ≤ (rs.take i).length := numsFrom_len
      repeat walk_at "W"
      intro N1 hN1
      have u2 := Wp.same_upd (o := .tup [.int (i : Nat)]) hN1
      repeat walk_at "W"
      refine catT (Wp.sameT u2 hv2) (SqT.of upd_same) (by rw [List.length_map]; simp; omega) fun q3 H3 s3 hq3 => ?_
      repeat walk_at "W"
      have s23 := (u1.trans u2).trans s3
      refine Wp.dK_put (s23 _ _ h1) (small1000 (by omega)) ?_
      refine ⟨_, _, _, rfl, fun b o e => ?_, ?_⟩
      · rw [upd_ne (ne_of_none e hD)]
        exact s23 _ _ (sT _ _ e)
      · rw [htk]
        refine nums_put (s23 _ _ h1) h2 (fun x => (h3 x).same fun b xs e => Wp.sameT s23 e) ?_
        rw [hlt, List.map_append]
        exact hq3
    · rintro σ1 H1 ⟨x2, x3, x4, rfl, s1, hR⟩
      rw [List.length_map, hbl, List.take_length] at hR
      repeat walk_at "W"
      exact q _ _ s1 hR
def pairD (p : Nat × Nat) : PyData := .tuple [.int (p.1 : Nat), .int (p.2 : Nat)]
theorem pairs_no : ∀ ps : List (Nat × Nat), Wp.noLA (ps.map pairD) = true
  | [] => rfl
  | p :: ps => by
    show (Wp.noL (pairD p) && Wp.noLA (ps.map pairD)) = true
    rw [pairs_no ps, show Wp.noL (pairD p) = true by simp [pairD, Wp.noL, Wp.noLA]]; rfl
def spStepsOf (K : PySem.W.Frag) : Sp := fun vs H Q _ => ∃ d rs z, vs = [.ref d, .str z] ∧ NumsAt K H d rs ∧ Good rs ∧ rs.length ≤ 64 ∧ z.length ≤ 1000 ∧
  ∀ H' f (ws : List V), Same H H' → H f = none → H' f = some (.lst ws) → DpAll K H' ws ((stepsL rs (cl z)).map pairD) → ws.length ≤ 64000 → Q (.ref f) H'
theorem ok_stepsOf (B : Wp.Blt mg) {f : Addr} {fd : FuncData} (F : Fun K "steps_of" "steps_of" s_steps_of f fd) (c_LONGEST_LEFT : ∃ t, mg "LONGEST_LEFT" = some (.int 4 t)) : FnOk P w K mg base CX0 1 f fd ["numbers", "text"] (spStepsOf K) := by
  obtain ⟨tk1, c_LONGEST_LEFT⟩ := c_LONGEST_LEFT
  refine F.ok sc_steps_of (fun vs H Q E h => ?_) (fun cdv A outer s H vs Q E hr h => ?_)
  · obtain ⟨d, rs, z, rfl, _⟩ := h
    rfl
  · obtain ⟨d, rs, z, rfl, hN, hg, hl, hz, q⟩ := h
    refine ⟨_, (pss_cons (ps_set (i := 2) sc_steps_of.nd rfl (by first | exact .inl rfl | exact .inr rfl) (pe_lst pa_nil))
  (pss_cons (ps_for PassesOwn.never rfl (pi_range1 (by rfl) B.range (pa_cons (pe_callB (Wp.wc_len (K := K)) (by rfl) B.len (by decide +kernel) (pa_cons (pv 1) pa_nil)) pa_nil)) (pg_name (i := 3) sc_steps_of.nd rfl (by first | exact .inl rfl | exact .inr rfl)) (pss_cons (ps_set (i := 4) sc_steps_of.nd rfl (by first | exact .inl rfl | exact .inr rfl) (pe_lst pa_nil))
  (pss_cons (ps_for PassesOwn.never rfl (pi_range2 (by rfl) B.range (pa_cons pe_int (pa_cons (pe_op (wo_add (K := K)) (pe_callB (Wp.wc_min rfl) (by rfl) B.min (by decide +kernel) (pa_cons (pe_glob (v := .int 4) (by rfl) c_LONGEST_LEFT ⟨_, rfl⟩) (pa_cons (pe_op op_sub (pe_callB (Wp.wc_len (K := K)) (by rfl) B.len (by decide +kernel) (pa_cons (pv 1) pa_nil)) (pv 3)) pa_nil))) pe_int) pa_nil))) (pg_name (i := 5) sc_steps_of.nd rfl (by first | exact .inl rfl | exact .inr rfl)) (pss_one (ps_expr (Wp.wbm (K := K) (pe_bm PySem.F.plainAttrs_list PySem.F.slot_list_extend PySem.F.type_list_extend (Bk.mt_extU (K := K)) (pv 4) (pa_cons (pe_dget2 (hu_of hr) (pv 0) (pe_slice (ws_any (K := K)) (pv 1) (po_some (pv 3)) (po_some (pe_op (wo_add (K := K)) (pv 3) (pv 5)))) (pe_tup pa_nil) ⟨rfl, rfl, rfl, rfl⟩) pa_nil))))))
  (pss_one (ps_expr (Wp.wbm (K := K) (pe_bm PySem.F.plainAttrs_list PySem.F.slot_list_extend PySem.F.type_list_extend (Bk.mt_extU (K := K)) (pv 2) (pa_cons (pe_lc (own := [("number", 6)]) (g := gName 6) (by rfl) sc_steps_of.nd (Wp.wi_list (K := K) (pe_callB (Bk.wc_sortedI (K := K)) (by rfl) B.sorted (by decide +kernel) (pa_cons (pv 4) pa_nil))) (blkOk_by (own := [("number", 6)]) (N := N_steps_of) (sc := defScope s_steps_of) (by decide +kernel)) (fun _ _ _ _ _ => pg_name (i := 6) sc_steps_of.nd rfl (Or.inl rfl)) (fun _ _ _ _ _ => pts_nil) (fun _ _ _ _ _ => (pe_tup (pa_cons (pv 3) (pa_cons (pv 6) pa_nil))))) pa_nil))))))))
  (pss_one (ps_ret (pv 2))))), ?_⟩
    refine Wp.st (σ' := [some (.ref d), some (.str z), none, none, none, none, none]) rfl ?_
    have hzl := len_cl z
    repeat walk_at "W"
    intro F hF
    have sF := Wp.same_upd (o := .lst []) hF
    repeat walk_at "W"
    refine Wp.lenS (Nat.le_of_lt (small1000 hz)) ?_
    repeat walk_at "W"
    refine ⟨_, rfl, by omega, by omega, ?_⟩
    refine Wp.forIt walk_range (fun i σ1 H1 => ∃ x3 x4 x5 x6 ws, σ1 = [some (.ref d), some (.str z), some (.ref F), x3, x4, x5, x6] ∧ Same H H1 ∧ H1 F = some (.lst ws) ∧ DpAll K H1 ws (((List.range i).flatMap fun p => (fitsAt rs (cl z) p).map fun k => (p, k)).map pairD) ∧ ws.length ≤ i * 64) ⟨_, _, _, _, [], rfl, sF, upd_same, .nil, by simp⟩ (fun _ _ _ _ _ => trivial) ?_ ?_
    · rintro i x σ1 H1 H1' hi ⟨x3, x4, x5, x6, ws, rfl, s1, hFo, hws, hwl⟩ ⟨rfl, rfl⟩
      have hi2 : i < z.length := by omega
      repeat walk_at "W"
      intro hh hhn
      have uh := Wp.same_upd (o := .lst []) hhn
      have hhF : hh ≠ F := fun e => by rw [e, hFo] at hhn; cases hhn
      have uph : ∀ {G : Hp} (o : HO), Same H1' G → Same H1' (upd G hh o) := fun o s b u e => by rw [upd_ne (ne_of_none e hhn)]; exact s _ _ e
      refine Wp.gname ?_
      dsimp only
      refine Wp.cutQ (fun σ' H' => ∃ x5, σ' = [some (.ref d), some (.str z), some (.ref F), some (.int (i : Nat)), some (.ref hh), x5, x6] ∧ Same H1' H' ∧ H' hh = some (.lst ((piecesN rs (cl z) i (min 4 ((cl z).length - i))).map nv))) (fun nx hn => ?_) ?_
      · repeat walk_at "W"
        refine Wp.lenS (Nat.le_of_lt (small1000 hz)) ?_
        repeat walk_at "W"
        have hmin : (if (z.length : Int) - (0 + (i : Int)) < 4 then (z.length : Int) - (0 + (i : Int)) else 4) = ((min 4 ((cl z).length - i) : Nat) : Int) := by
          rw [hzl]; split <;> omega
        rw [hmin]
        generalize hm : min 4 ((cl z).length - i) = m at hn
        repeat walk_at "W"
        refine ⟨_, _, rfl, ⟨by omega, by omega, by omega, by omega⟩, ?_⟩
        rw [show ((m : Int) + 1 - 1).toNat = m by omega]
        refine Wp.forIt walk_range (fun j σ2 H2 => ∃ x5, σ2 = [some (.ref d), some (.str z), some (.ref F), some (.int (0 + (i : Int))), some (.ref hh), x5, x6] ∧ Same H1' H2 ∧ H2 hh = some (.lst ((piecesN rs (cl z) i j).map nv))) ⟨_, rfl, uh, upd_same⟩ (fun _ _ _ _ _ => trivial) ?_ ?_
        · rintro j x σ2 H2 H2' hj ⟨x5, rfl, s2, hP⟩ ⟨rfl, rfl⟩
          obtain ⟨kvs, h1, h2, h3⟩ := (hN.same (s1.trans s2)).ex
          repeat walk_at "W"
          refine Wp.tyl hP ?_
          repeat walk_at "W"
          refine ⟨.inl ⟨kvs, .inl h1⟩, ?_⟩
          repeat walk_at "W"
          refine sls hz ?_
          rw [cutS_mid (z := z) i (i + (j + 1)) (by omega) (by omega) (by omega)]
          rw [show i + (j + 1) - i = j + 1 by omega]
          generalize hlz : mkS (((cl z).drop i).take (j + 1)) = l
          repeat walk_at "W"
          intro E0 hE0
          have u1 := Wp.same_upd (o := .tup []) hE0
          repeat walk_at "W"
          refine ⟨_, DGet.k (k := Sum.inr l) (u1 _ _ h1), ?_⟩
          have hv : ∃ b0, (valV kvs (Sum.inr l)).getD (.ref E0) = .ref b0 ∧ SqT K (upd H2' E0 (.tup [])) b0 ((numsOf rs l).map nv) := by
            have := h3 l
            cases hq : valV kvs (Sum.inr l) with
            | none =>
              rw [hq] at this
              exact ⟨E0, rfl, by rw [show numsOf rs l = [] from this]; exact SqT.of upd_same⟩
            | some v =>
              rw [hq] at this
              obtain ⟨b0, rfl, hb0⟩ := this
              exact ⟨b0, rfl, Wp.sameT u1 hb0⟩
          obtain ⟨b0, hv1, hv2⟩ := hv
          rw [hv1]
          repeat walk_at "W"
          have hl1 := @piecesN_len rs (cl z) i j
          have hl2 : (numsOf rs l).length ≤ rs.length := numsFrom_len
          have hj4 : j < 4 := by omega
          have hjr : j * rs.length ≤ 4 * 64 := Nat.mul_le_mul (by omega) hl
          refine extT (u1 _ _ hP) hv2 (by rw [List.length_map, List.length_map]; omega) ?_
          repeat walk_at "W"
          refine ⟨_, rfl, uph _ (s2.trans u1), ?_⟩
          rw [upd_same, piecesN_succ, List.map_append, hlz]
        · rintro σ2 H2 ⟨x5, rfl, s2, hP⟩
          exact hn _ _ ⟨x5, by rw [Int.zero_add], s2, hP⟩
      rintro σ' H2 ⟨y5, rfl, s2, hP⟩
      repeat walk_at "W"
      refine Wp.tyl (s2 _ _ hFo) ?_
      repeat walk_at "W"
      refine ⟨hh, (piecesN rs (cl z) i (min 4 ((cl z).length - i))).map fun k => ((k : Nat) : Int), rfl, ?_, fun ns' p hperm hup hp => ?_⟩
      · rw [List.map_map]; exact SqL.of hP
      have hns := sorted_fit hg (t := cl z) (p := i) rfl hperm hup
      subst hns
      have u3 := Wp.same_upd (o := .lst (((fitsAt rs (cl z) i).map fun k => ((k : Nat) : Int)).map V.int)) hp
      have hfl : (fitsAt rs (cl z) i).length ≤ 64 := by
        have := List.length_filter_le (fun k => match rs[k]? with | some (l, _) => (cl l).isPrefixOf ((cl z).drop i) | none => false) (List.range rs.length)
        rw [List.length_range] at this
        exact Nat.le_trans this hl
      refine ⟨p, rfl, ⟨_, SqL.of upd_same⟩, fun A hA => ?_⟩
      refine Wp.lcIt (walk_list (xs := ((fitsAt rs (cl z) i).map fun k => ((k : Nat) : Int)).map V.int)) (fun j H4 => Same (upd H2 p (.lst (((fitsAt rs (cl z) i).map fun k => ((k : Nat) : Int)).map V.int))) H4 ∧ ∃ ws' : List V, H4 A = some (.lst ws') ∧ DpAll K H4 ws' ((((fitsAt rs (cl z) i).take j).map fun k => (i, k)).map pairD)) ⟨Wp.same_upd hA, [], upd_same, .nil⟩ (fun j H4 _ h => SqL.of (h.1 _ _ upd_same)) ?_ ?_
      · rintro j x H4 H4' hj ⟨s4, ws', hl4, hw⟩ ⟨rfl, hx⟩
        rw [List.map_map, List.getElem?_map] at hx
        obtain ⟨k, hk, rfl⟩ := Option.map_eq_some_iff.mp hx
        have hwl' := Wp.dps_len hw
        rw [List.length_map, List.length_map, List.length_take] at hwl'
        repeat walk_at "W"
        intro T hT
        have u5 := Wp.same_upd (o := .tup [.int (i : Nat), .int (k : Nat)]) hT
        repeat walk_at "W"
        refine ⟨ws', u5 _ _ hl4, small1000 (by omega), fun b u e => ?_, _, upd_same, ?_⟩
        · rw [upd_ne (ne_of_none e hA)]; exact u5 _ _ (s4 _ _ e)
        · rw [List.take_add_one, hk, List.map_append, List.map_append]
          refine Wp.dps_append (Wp.dps_upd (u5 _ _ hl4) _ _ (pairs_no _) (Wp.dps_same u5 _ _ hw)) (.cons (Wp.dp_upd (u5 _ _ hl4) _ _ (pairs_no [(i, k)] |> fun h => by simpa [Wp.noLA] using h) (.tup (SqT.of upd_same) (.cons (.int _) (.cons (.int _) .nil)))) .nil)
      · rintro H4 ⟨s4, ws', hl4, hw⟩
        rw [List.length_map, List.length_map, List.take_length] at hw
        have hwl' := Wp.dps_len hw
        rw [List.length_map, List.length_map] at hwl'
        have s24 := u3.trans s4
        have hF4 := s24 _ _ (s2 _ _ hFo)
        repeat walk_at "W"
        refine extL hF4 hl4 (by omega) ?_
        repeat walk_at "W"
        have hAF : A ≠ F := fun e => by rw [e, hF4] at hl4; rw [e] at hA; rw [u3 _ _ (s2 _ _ hFo)] at hA; cases hA
        refine ⟨_, _, _, _, ws ++ ws', rfl, fun b u e => ?_, upd_same, ?_, by rw [List.length_append]; omega⟩
        · rw [upd_ne (ne_of_none e hF)]; exact s24 _ _ (s2 _ _ (s1 _ _ e))
        · rw [List.range_succ, List.flatMap_append, List.map_append]
          refine Wp.dps_upd hF4 _ _ ?_ (Wp.dps_append (Wp.dps_same (s2.trans s24) _ _ hws) ?_)
          · rw [← List.map_append]; exact pairs_no _
          · simpa using hw
    · rintro σ1 H1 ⟨x3, x4, x5, x6, ws, rfl, s1, hFo, hws, hwl⟩
      repeat walk_at "W"
      have e : (z.length : Int).toNat = (cl z).length := by rw [len_cl]; omega
      rw [e] at hws hwl
      exact q _ F ws s1 hF hFo hws (by omega)
end
end K09
set_option Elab.async false
set_option linter.all false
set_option maxRecDepth 100000
set_option maxHeartbeats 8000000
namespace K09
open PySem PySem.Spec PyProof.Rows L2 Bk
open Wp (Keep wo_lt wo_le wo_gt wo_ge wo_eq wo_ne wo_in wo_nin wo_add wo_mul op_shlB ws_any wc_int wc_isi u65)
abbrev s__law_ends : Stmt := topS 117
abbrev N__law_ends : List Str := ["_law_signs_here", "_law_rules", "_law_size", "_law_told", "_law_level", "_law_k", "_law_later", "_law_text", "_law_sign", "_law_rule_here"]
theorem sc__law_ends : FnScope N__law_ends ["_law_signs_here", "_law_rules", "_law_size"] (defScope s__law_ends) := ⟨rfl, rfl, rfl, by decide +kernel, rfl, by decide +kernel, by decide +kernel⟩
abbrev s__law_texts : Stmt := topS 118
abbrev N__law_texts : List Str := ["_law_signs_here", "_law_size"]
theorem sc__law_texts : FnScope N__law_texts ["_law_signs_here", "_law_size"] (defScope s__law_texts) := ⟨rfl, rfl, rfl, by decide +kernel, rfl, by decide +kernel, by decide +kernel⟩
local macro_rules | `(tactic| walk_at "W") => `(tactic| first
  | (with_reducible first
    | refine Wp.seq ?_ | refine Wp.asg ?_ | refine Wp.ret ?_ | refine Wp.retN ?_ | refine Wp.drop ?_ | refine Wp.nxt ?_ | refine Wp.ifs ?_ | refine Wp.gname ?_
    | refine Wp.op ?_ | refine Wp.un ?_ | refine Wp.tst ?_ | refine Wp.tb' ?_ | refine Wp.tnot ?_ | refine Wp.tand ?_ | refine Wp.tor ?_ | refine Wp.tandV ?_ | refine Wp.torV ?_ | refine Wp.tnotV ?_ | refine Wp.tif ?_ | refine Wp.tchain ?_
    | refine Wp.cb ?_ | refine Wp.call ?_ | refine Wp.cons ?_ | refine Wp.nil ?_ | refine Wp.gsub ?_ | refine Wp.cst ?_ | refine Wp.i0 ?_ | refine Wp.int1 ?_ | refine Wp.eb ?_ | refine Wp.ei ?_
    | refine Wp.gnil ?_ | refine Wp.gcons ?_ | refine Wp.mko ?_ | refine Wp.bm ?_ | refine Wp.ienum ?_ | refine Wp.tru ?_ | refine Wp.u1 ?_ | refine Wp.for_ ?_ | refine Wp.lc ?_ | refine Wp.istr ?_ | refine Wp.ilist ?_ | refine Wp.itup ?_ | refine Wp.irng1 ?_ | refine Wp.irng2 ?_ | refine Wp.yes ?_ | refine Wp.es ?_ | refine Wp.er ?_ | refine Wp.sl ?_ | refine Wp.nopart ?_ | refine Wp.part ?_ | refine Wp.lst ?_ | refine Wp.tup ?_
    | refine Wp.din ?_ | refine Wp.dnotin ?_ | refine Wp.dget ?_ | refine Wp.dget2 ?_ | refine Wp.dput ?_ | refine Wp.dnewK ?_ | refine Wp.dnewT ?_ | refine Wp.bm0 ?_ | refine Wp.m1 ?_ | refine Wp.exs ?_ | refine Wp.is0 ?_ | refine Wp.isnot0 ?_ | refine Wp.fld ?_ | refine Wp.sfld ?_
    | refine Wp.par ?_ | refine Wp.parV ?_ | refine Wp.brk ?_ | refine Wp.aug ?_ | refine Wp.ipaI ?_ | refine Wp.ipsI ?_ | refine Bk.ienumS ?_ | refine Wp.make_ ?_ | refine Wp.itnn ?_ | refine Wp.ltI ?_ | refine Wp.leI ?_ | refine Wp.leS ?_ | refine Wp.inSg ?_ | refine Wp.gtI ?_ | refine Wp.geI ?_ | refine Wp.eqI ?_ | refine Wp.neI ?_ | refine Wp.addI ?_ | refine Wp.ltS ?_ | refine Wp.eqS ?_ | refine Wp.neS ?_)
  | ((with_reducible refine' Wp.var ?hv ?_); (case hv => exact rfl))
  | ((with_reducible refine' Wp.ixl ?hs ?he ?_); (case hs => first | exact SqL.of upd_same | exact SqL.of (by assumption) | assumption); (case he => exact rfl))
  | ((with_reducible refine' Wp.setl ?hs ?he ?_); (case hs => first | exact upd_same | assumption); (case he => exact rfl))
  | ((with_reducible refine' Wp.modP ?hs ?_); (case hs => first | decide | omega))
  | ((with_reducible refine' Wp.divN ?hs ?ht ?_); (case hs => first | decide | omega); (case ht => first | decide | omega))
  | ((with_reducible refine' Wp.mulM ?hs ?ht ?_); (case hs => decide); (case ht => decide))
  | ((with_reducible refine' Wp.mulL ?hs ?_); (case hs => omega))
  | ((with_reducible refine' Wp.mulR ?hs ?_); (case hs => omega))
  | ((with_reducible refine' Wp.powS ?hs ?_); (case hs => decide))
  | ((with_reducible refine' Wp.shr ?hs ?_); (case hs => decide))
  | ((with_reducible refine' Wp.szl ?hs ?_); (case hs => first | decide | (simp; done)))
  | ((with_reducible refine' Wp.lenL ?hs ?_); (case hs => first | exact SqL.of upd_same | exact SqL.of (by assumption) | assumption))
  | ((with_reducible refine' Wp.lenT ?hs ?_); (case hs => first | exact SqT.of upd_same | exact SqT.of (by assumption) | assumption))
  | ((with_reducible refine' Wp.iteC ?hs ?_); (case hs => exact rfl)) | ((with_reducible refine' Wp.iteD ?hs ?_); (case hs => exact Bool.false_ne_true))
  | ((with_reducible refine' Wp.wp ?hs ?_); (case hs => rfl))
  | (with_reducible first | refine Wp.abs ?_ | refine Wp.max2 ?_ | refine Wp.min2 ?_)
  | ((with_reducible refine' Wp.sll ?hs ?_); (case hs => first | exact SqL.of upd_same | exact SqL.of (by assumption) | assumption)))
local macro_rules | `(tactic| walk_at "KQ") => `(tactic| first
  | exact Wp.kq "int" rfl (by decide +kernel) | exact Wp.kq "bool" rfl (by decide +kernel) | exact Wp.kq "str" rfl (by decide +kernel) | exact Wp.kq "list" rfl (by decide +kernel)
  | exact Wp.kq "tuple" rfl (by decide +kernel) | exact Wp.kq "NoneType" rfl (by decide +kernel) | exact Wp.kq "dict" rfl (by decide +kernel))

section
variable {P : Program} {w : World} {K : PySem.W.Frag} {mg : Str → Option Value} {base : Heap}
def spLEnds : Sp := fun vs H Q _ => ∃ sg t bs rs n, vs = [.str sg, .ref t, .int (n : Nat)] ∧ RowAt H t (bs.map V.ref) ∧ RulesAt H bs rs ∧ rs.length ≤ 64 ∧ Good rs ∧ sg.length ≤ 3 ∧ n ≤ 5 ∧
  ∀ H' L, Same H H' → H L = none → H' L = some (.lst (tx (endsUp rs (cl sg) n))) → Q (.ref L) H'
theorem ok_lends (B : Wp.Blt mg) (B_any : mg "any" = none) {f : Addr} {fd : FuncData} (F : Fun K "_law_ends" "_law_ends" s__law_ends f fd) : FnOk P w K mg base CX0 1 f fd ["_law_signs_here", "_law_rules", "_law_size"] spLEnds := by
  refine F.ok sc__law_ends (fun vs H Q E h => ?_) (fun cdv A outer s H vs Q E hr h => ?_)
  · obtain ⟨sg, t, bs, rs, n, rfl, _⟩ := h
    rfl
  · obtain ⟨sg, t, bs, rs, n, rfl, ht, hb, hl, hg, hsl, hn5, q⟩ := h
    refine ⟨_, (pss_cons (ps_set (i := 3) sc__law_ends.nd rfl (by first | exact .inl rfl | exact .inr rfl) (pe_lst (pa_cons pe_str pa_nil)))
  (pss_cons (ps_set (i := 4) sc__law_ends.nd rfl (by first | exact .inl rfl | exact .inr rfl) (pe_lst (pa_cons pe_str pa_nil)))
  (pss_cons (ps_for PassesOwn.never rfl (pi_range1 (by rfl) B.range (pa_cons (pv 2) pa_nil)) (pg_name (i := 5) sc__law_ends.nd rfl (by first | exact .inl rfl | exact .inr rfl)) (pss_cons (ps_set (i := 6) sc__law_ends.nd rfl (by first | exact .inl rfl | exact .inr rfl) (pe_lst pa_nil))
  (pss_cons (ps_for PassesOwn.never rfl (Wp.wi_list (K := K) (pv 4)) (pg_name (i := 7) sc__law_ends.nd rfl (by first | exact .inl rfl | exact .inr rfl)) (pss_one (ps_for PassesOwn.never rfl (pi_str (pv 0)) (pg_name (i := 8) sc__law_ends.nd rfl (by first | exact .inl rfl | exact .inr rfl)) (pss_one (ps_if (pt_not (pt_val (pe_callB (Bk.wc_any (K := K) (by rfl)) (by rfl) B_any (by decide +kernel) (pa_cons (pe_lc (own := [("_law_rule_here", 9)]) (g := gName 9) (by rfl) sc__law_ends.nd (wi_u (K := K) (pv 1)) (blkOk_by (own := [("_law_rule_here", 9)]) (N := N__law_ends) (sc := defScope s__law_ends) (by decide +kernel)) (fun _ _ _ _ _ => pg_name (i := 9) sc__law_ends.nd rfl (Or.inl rfl)) (fun _ _ _ _ _ => pts_nil) (fun _ _ _ _ _ => (pe_m1 PySem.F.slot_str_endswith PySem.F.type_str_endswith mt_endswith (pe_op (wo_add (K := K)) (pv 7) (pv 8)) (pe_ix (Wp.wx_seq (K := K)) (pv 9) pe_int (fun _ _ => rfl))))) pa_nil)))) (pss_one (ps_expr (Wp.wbm (K := K) (pe_bm PySem.F.plainAttrs_list PySem.F.slot_list_append PySem.F.type_list_append mt_append (pv 6) (pa_cons (pe_op (wo_add (K := K)) (pv 7) (pv 8)) pa_nil))))) pss_nil)))))
  (pss_cons (ps_set (i := 4) sc__law_ends.nd rfl (by first | exact .inl rfl | exact .inr rfl) (pe_callTy (Wp.wc_listU (K := K) rfl) (by rfl) B.list (by decide +kernel) (pa_cons (pv 6) pa_nil)))
  (pss_one (ps_set (i := 3) sc__law_ends.nd rfl (by first | exact .inl rfl | exact .inr rfl) (pe_op (wo_add (K := K)) (pv 3) (pv 4))))))))
  (pss_one (ps_ret (pv 3)))))), ?_⟩
    refine Wp.st (σ' := [some (.str sg), some (.ref t), some (.int (n : Nat)), none, none, none, none, none, none, none]) rfl ?_
    have hbl := hb.len
    have hcl := len_cl sg
    have addC : ∀ (a : List Nat) (c : Nat), mkS a ++ (⟨#[c]⟩ : Str) = mkS (a ++ [c]) := fun a c => ext (by rw [cl_mk, cl_app, cl_mk])
    repeat walk_at "W"
    intro L0 hL0
    have u0 := Wp.same_upd (o := .lst [.str ""]) hL0
    have v0 := upd_same (H := H) (a := L0) (o := .lst [.str ""])
    generalize upd H L0 (.lst [.str ""]) = G0 at u0 v0 ⊢
    repeat walk_at "W"
    intro L1 hL1
    have u1 := Wp.same_upd (o := .lst [.str ""]) hL1
    have v1 := upd_same (H := G0) (a := L1) (o := .lst [.str ""])
    generalize upd G0 L1 (.lst [.str ""]) = G1 at u1 v1 ⊢
    repeat walk_at "W"
    refine ⟨_, rfl, by omega, by omega, ?_⟩
    refine Wp.forIt walk_range (fun k σ1 H1 => ∃ Lt Ll x5 x6 x7 x8 x9, σ1 = [some (.str sg), some (.ref t), some (.int (n : Nat)), some (.ref Lt), some (.ref Ll), x5, x6, x7, x8, x9] ∧ Same H H1 ∧ H Lt = none ∧ H1 Lt = some (.lst (tx (endsUp rs (cl sg) k))) ∧ H1 Ll = some (.lst (tx (levs rs (cl sg) k))))
      ⟨L0, L1, _, _, _, _, _, rfl, u0.trans u1, hL0, u1 _ _ v0, v1⟩ (fun _ _ _ _ _ => trivial) ?_ ?_
    · rintro k x σ1 H1 H1' hk ⟨Lt, Ll, x5, x6, x7, x8, x9, rfl, s1, hLt, hT, hLv⟩ ⟨rfl, rfl⟩
      have hk5 : k < 5 := by omega
      have hlv := @levs_len rs (cl sg) (by omega) k
      have hp3 := pow3_le (k := k) (by omega)
      refine Wp.cutQ (fun σ' H' => ∃ A x5 x7 x8 x9, σ' = [some (.str sg), some (.ref t), some (.int (n : Nat)), some (.ref Lt), some (.ref Ll), x5, some (.ref A), x7, x8, x9] ∧ H1' A = none ∧ H' = upd H1' A (.lst [])) (fun nx hn => ?_) ?_
      · repeat walk_at "W"
        intro A hA
        repeat walk_at "W"
        exact hn _ _ ⟨A, _, _, _, _, rfl, hA, rfl⟩
      rintro σ' H2 ⟨A, y5, y7, y8, y9, rfl, hA, rfl⟩
      have upA : ∀ {G : Hp} (o : HO), Same H1' G → Same H1' (upd G A o) := fun o s b u e => by rw [upd_ne (ne_of_none e hA)]; exact s _ _ e
      have uA := Wp.same_upd (o := .lst []) hA
      refine Wp.cutQ (fun σ' H' => ∃ x7 x8 x9, σ' = [some (.str sg), some (.ref t), some (.int (n : Nat)), some (.ref Lt), some (.ref Ll), y5, some (.ref A), x7, x8, x9] ∧ Same H1' H' ∧ H' A = some (.lst (tx (levs rs (cl sg) (k + 1))))) (fun nx hn => ?_) ?_
      · repeat walk_at "W"
        refine ⟨⟨_, SqL.of (uA _ _ hLv)⟩, Wp.forIt (walk_list (xs := tx (levs rs (cl sg) k))) (fun i σ1 G => ∃ x7 x8 x9, σ1 = [some (.str sg), some (.ref t), some (.int (n : Nat)), some (.ref Lt), some (.ref Ll), y5, some (.ref A), x7, x8, x9] ∧ Same H1' G ∧ G A = some (.lst (tx (longer rs (cl sg) ((levs rs (cl sg) k).take i)))))
          ⟨_, _, _, rfl, uA, by rw [upd_same]; rfl⟩ (fun i σ1 G _ ⟨_, _, _, _, s, _⟩ => SqL.of (s _ _ hLv)) ?_ ?_⟩
        · rintro i x σ1 G G' hi ⟨x7, x8, x9, rfl, s2, hA2⟩ ⟨rfl, hx⟩
          rw [List.getElem?_map] at hx
          obtain ⟨u, hu, rfl⟩ := Option.map_eq_some_iff.mp hx
          have hul := levs_size k u (List.mem_of_getElem? hu)
          have hil := (List.getElem?_eq_some_iff.mp hu).1
          have hlo : (longer rs (cl sg) ((levs rs (cl sg) k).take i)).length ≤ i * 3 := Nat.le_trans (flat_len (c := 3) _ fun t _ => Nat.le_trans longerOf_len (by omega)) (by rw [List.length_take]; exact Nat.mul_le_mul_right 3 (by omega))
          repeat walk_at "W"
          refine Wp.forIt walk_str (fun j σ1 G2 => ∃ x8 x9, σ1 = [some (.str sg), some (.ref t), some (.int (n : Nat)), some (.ref Lt), some (.ref Ll), y5, some (.ref A), some (.str (mkS u)), x8, x9] ∧ Same H1' G2 ∧ G2 A = some (.lst (tx (longer rs (cl sg) ((levs rs (cl sg) k).take i) ++ longerOf rs ((cl sg).take j) u))))
            ⟨_, _, rfl, s2, by rw [hA2]; simp [longerOf]⟩ (fun _ _ _ _ _ => trivial) ?_ ?_
          · rintro j x σ1 G2 G2' hj ⟨x8, x9, rfl, s3, hA3⟩ ⟨rfl, c, hc, rfl⟩
            have hc2 : (cl sg)[j]? = some c := by show sg.cps.toList[j]? = _; rw [Array.getElem?_toList]; exact hc
            have hjl := (List.getElem?_eq_some_iff.mp hc2).1
            have hlt : (longerOf rs ((cl sg).take j) u).length ≤ 3 := Nat.le_trans longerOf_len (by rw [List.length_take]; omega)
            have hum : (mkS u).length = k := by rw [len_mk]; exact hul
            refine Wp.ifs ?_
            refine Wp.cutT (fun b H' => b = !fitsEnd rs (u ++ [c]) ∧ Same G2' H') (fun R hRR => ?_) ?_
            · repeat walk_at "W"
              refine iu_lc (xs := bs.map V.ref) rfl (ht.same (s1.trans s3)) fun D hD => ⟨fun m G3 => Same G2' G3 ∧ G3 D = some (.lst ((((rs.take m).map fun r => ends (u ++ [c]) r.1)).map V.bl)), ⟨Wp.same_upd hD, upd_same⟩, fun m G3 h => h.1, ?_, ?_⟩
              · rintro m x G3 hx ⟨s4, hD3⟩
                obtain ⟨b, ⟨l, r⟩, rfl, hlr, hbm⟩ := rulesAt_take hb hx
                have hml := (List.getElem?_eq_some_iff.mp hlr).1
                have upD : ∀ {G : Hp} (o : HO), Same G2' G → Same G2' (upd G D o) := fun o s b u e => by rw [upd_ne (ne_of_none e hD)]; exact s _ _ e
                repeat walk_at "W"
                refine Wp.addS (by rw [hum]; exact Nat.le_of_lt (small1000 (by show k + 1 ≤ 1000; omega))) ?_
                rw [addC]
                repeat walk_at "W"
                refine Wp.ixt (SqT.of (s4 _ _ (s3 _ _ (s1 _ _ hbm)))) rfl ?_
                refine ⟨_, _, rfl, rfl, ?_⟩
                rw [ends_eq, cl_mk]
                refine ⟨_, hD3, by rw [List.length_map, List.length_map, List.length_take]; exact small1000 (by omega), upD _ s4, ?_⟩
                rw [upd_same, List.take_add_one, hlr, List.map_append, List.map_append]; rfl
              · rintro G3 ⟨s4, hD3⟩
                rw [List.length_map, hbl, List.take_length] at hD3
                repeat walk_at "W"
                refine ⟨D, _, rfl, SqL.of hD3, ?_⟩
                repeat walk_at "W"
                refine hRR _ _ ⟨?_, s4⟩
                unfold fitsEnd
                rw [List.any_map]; rfl
            · rintro b G3 ⟨rfl, s4⟩
              have hA4 := s4 _ _ hA3
              refine Wp.itnb (fun e1 => ?_) (fun e1 => ?_)
              · repeat walk_at "W"
                refine Wp.tyl hA4 ?_
                repeat walk_at "W"
                refine Wp.addS (by rw [hum]; exact Nat.le_of_lt (small1000 (by show k + 1 ≤ 1000; omega))) ?_
                rw [addC]
                repeat walk_at "W"
                refine Wp.app hA4 (by rw [List.length_map, List.length_append]; exact small1000 (by omega)) ?_
                repeat walk_at "W"
                refine ⟨_, _, rfl, upA _ (s3.trans s4), ?_⟩
                rw [upd_same, longerOf_take hc2, if_neg (by rw [e1]; simp), ← List.append_assoc, tx_app _ [u ++ [c]]]; rfl
              · repeat walk_at "W"
                refine ⟨_, _, rfl, s3.trans s4, ?_⟩
                rw [hA4, longerOf_take hc2, if_pos e1, List.append_nil]
          · rintro σ1 G2 ⟨x8, x9, rfl, s3, hA3⟩
            refine ⟨_, _, _, rfl, s3, ?_⟩
            rw [List.take_of_length_le (l := cl sg) (by rw [hcl]; exact Nat.le_refl _)] at hA3
            rw [hA3, longer_take hu]
        · rintro σ1 G ⟨x7, x8, x9, rfl, s2, hA2⟩
          rw [List.length_map, List.take_length] at hA2
          exact hn _ _ ⟨_, _, _, rfl, s2, hA2⟩
      rintro σ' H3 ⟨y7, y8, y9, rfl, s3, hA3⟩
      have hlv1 := @levs_len rs (cl sg) (by omega) (k + 1)
      have hp31 := pow3_le (k := k + 1) (by omega)
      have hel := @endsUp_len rs (cl sg) (by omega) k (by omega)
      repeat walk_at "W"
      refine .inl ⟨A, _, rfl, .inl (SqL.of hA3), fun L2 hL2 => ?_⟩
      have u2 := Wp.same_upd (o := .lst (tx (levs rs (cl sg) (k + 1)))) hL2
      have v2 := upd_same (H := H3) (a := L2) (o := .lst (tx (levs rs (cl sg) (k + 1))))
      generalize upd H3 L2 (.lst (tx (levs rs (cl sg) (k + 1)))) = G2 at u2 v2 ⊢
      repeat walk_at "W"
      have hbig : (10000 : Nat) < sizeLine := by decide
      refine Wp.addL ⟨Lt, L2, _, _, rfl, rfl, u2 _ _ (s3 _ _ hT), v2, by rw [List.length_map, List.length_map]; omega, fun L3 hL3 => ?_⟩
      have u3 := Wp.same_upd (o := .lst (tx (endsUp rs (cl sg) k) ++ tx (levs rs (cl sg) (k + 1)))) hL3
      repeat walk_at "W"
      have s13 := (s1.trans s3).trans u2
      exact ⟨L3, L2, _, _, _, _, _, rfl, s13.trans u3, s13.free hL3, by rw [upd_same, endsUp_succ, tx_app], u3 _ _ v2⟩
    · rintro σ1 H1 ⟨Lt, Ll, x5, x6, x7, x8, x9, rfl, s1, hLt, hT, hLv⟩
      repeat walk_at "W"
      exact q _ Lt s1 hLt hT
def spLTexts : Sp := fun vs H Q _ => ∃ sg n, vs = [.str sg, .int (n : Nat)] ∧ sg.length ≤ 3 ∧ n ≤ 5 ∧ ∀ H' L, Same H H' → H L = none → H' L = some (.lst (tx (endsUp [] (cl sg) n))) → Q (.ref L) H'
theorem ok_ltexts (B : Wp.Blt mg) {f fE : Addr} {fd fdE : FuncData} (F : Fun K "_law_texts" "_law_texts" s__law_texts f fd)
    (D__law_ends : Wp.Dh K mg "_law_ends" fE fdE ["_law_signs_here", "_law_rules", "_law_size"]) (G__law_ends : FnOk P w K mg base CX0 1 fE fdE ["_law_signs_here", "_law_rules", "_law_size"] spLEnds) : FnOk P w K mg base CX0 2 f fd ["_law_signs_here", "_law_size"] spLTexts := by
  refine F.ok sc__law_texts (fun vs H Q E h => ?_) (fun cdv A outer s H vs Q E hr h => ?_)
  · obtain ⟨sg, n, rfl, _⟩ := h
    rfl
  · obtain ⟨sg, n, rfl, hsl, hn5, q⟩ := h
    refine ⟨_, (pss_one (ps_ret (pe_call G__law_ends (hr.mono (by decide)) (by rfl) D__law_ends.g D__law_ends.k D__law_ends.b .nil pass0 (pa_cons (pv 0) (pa_cons (pe_tup pa_nil) (pa_cons (pv 1) pa_nil)))))), ?_⟩
    refine Wp.st (σ' := [some (.str sg), some (.int (n : Nat))]) rfl ?_
    repeat walk_at "W"
    intro p hp
    have u := Wp.same_upd (o := .tup []) hp
    repeat walk_at "W"
    exact ⟨sg, p, [], [], n, rfl, .inr upd_same, trivial, by simp, (fun _ z => nomatch z), hsl, hn5, fun H' L s hL hT => q H' L (u.trans s) (u.free hL) hT⟩
end
end K09
set_option Elab.async false
set_option linter.all false
set_option maxRecDepth 100000
set_option maxHeartbeats 8000000
namespace K09
open PySem PySem.Spec PyProof.Rows L2 Bk
open Wp (Keep wo_lt wo_le wo_gt wo_ge wo_eq wo_ne wo_in wo_nin wo_add wo_mul op_shlB ws_any wc_int wc_isi u65)
abbrev s_Settled___init__ : Stmt := inClass (topS 52) 0
abbrev N_Settled___init__ : List Str := ["self", "holds", "meets", "text", "ends"]
theorem sc_Settled___init__ : FnScope N_Settled___init__ ["self", "holds", "meets", "text", "ends"] (defScope s_Settled___init__) := ⟨rfl, rfl, rfl, by decide +kernel, rfl, by decide +kernel, by decide +kernel⟩
abbrev s_Settled___bool__ : Stmt := inClass (topS 52) 1
abbrev N_Settled___bool__ : List Str := ["self"]
theorem sc_Settled___bool__ : FnScope N_Settled___bool__ ["self"] (defScope s_Settled___bool__) := ⟨rfl, rfl, rfl, by decide +kernel, rfl, by decide +kernel, by decide +kernel⟩
abbrev s_settled : Stmt := topS 53
abbrev N_settled : List Str := ["book", "text", "rights", "met", "_", "texts", "meanings"]
theorem sc_settled : FnScope N_settled ["book"] (defScope s_settled) := ⟨rfl, rfl, rfl, by decide +kernel, rfl, by decide +kernel, by decide +kernel⟩
abbrev s_ends_of_quarrel : Stmt := topS 46
abbrev N_ends_of_quarrel : List Str := ["rules", "text", "rights", "over", "place", "number"]
theorem sc_ends_of_quarrel : FnScope N_ends_of_quarrel ["rules", "text"] (defScope s_ends_of_quarrel) := ⟨rfl, rfl, rfl, by decide +kernel, rfl, by decide +kernel, by decide +kernel⟩
local macro_rules | `(tactic| walk_at "W") => `(tactic| first
  | (with_reducible first
    | refine Wp.seq ?_ | refine Wp.asg ?_ | refine Wp.ret ?_ | refine Wp.retN ?_ | refine Wp.drop ?_ | refine Wp.nxt ?_ | refine Wp.ifs ?_ | refine Wp.gname ?_
    | refine Wp.op ?_ | refine Wp.un ?_ | refine Wp.tst ?_ | refine Wp.tb' ?_ | refine Wp.tnot ?_ | refine Wp.tand ?_ | refine Wp.tor ?_ | refine Wp.tandV ?_ | refine Wp.torV ?_ | refine Wp.tnotV ?_ | refine Wp.tif ?_ | refine Wp.tchain ?_
    | refine Wp.cb ?_ | refine Wp.call ?_ | refine Wp.cons ?_ | refine Wp.nil ?_ | refine Wp.gsub ?_ | refine Wp.cst ?_ | refine Wp.i0 ?_ | refine Wp.int1 ?_ | refine Wp.eb ?_ | refine Wp.ei ?_
    | refine Wp.gnil ?_ | refine Wp.gcons ?_ | refine Wp.mko ?_ | refine Wp.bm ?_ | refine Wp.ienum ?_ | refine Wp.tru ?_ | refine Wp.u1 ?_ | refine Wp.for_ ?_ | refine Wp.lc ?_ | refine Wp.istr ?_ | refine Wp.ilist ?_ | refine Wp.itup ?_ | refine Wp.irng1 ?_ | refine Wp.irng2 ?_ | refine Wp.yes ?_ | refine Wp.es ?_ | refine Wp.er ?_ | refine Wp.sl ?_ | refine Wp.nopart ?_ | refine Wp.part ?_ | refine Wp.lst ?_ | refine Wp.tup ?_
    | refine Wp.din ?_ | refine Wp.dnotin ?_ | refine Wp.dget ?_ | refine Wp.dget2 ?_ | refine Wp.dput ?_ | refine Wp.dnewK ?_ | refine Wp.dnewT ?_ | refine Wp.bm0 ?_ | refine Wp.m1 ?_ | refine Wp.exs ?_ | refine Wp.is0 ?_ | refine Wp.isnot0 ?_ | refine Wp.fld ?_ | refine Wp.sfld ?_
    | refine Wp.par ?_ | refine Wp.parV ?_ | refine Wp.brk ?_ | refine Wp.aug ?_ | refine Wp.ipaI ?_ | refine Wp.ipsI ?_ | refine Bk.ienumS ?_ | refine Wp.make_ ?_ | refine Wp.itnn ?_ | refine Wp.ltI ?_ | refine Wp.leI ?_ | refine Wp.leS ?_ | refine Wp.inSg ?_ | refine Wp.gtI ?_ | refine Wp.geI ?_ | refine Wp.eqI ?_ | refine Wp.neI ?_ | refine Wp.addI ?_ | refine Wp.ltS ?_ | refine Wp.eqS ?_ | refine Wp.neS ?_
    | refine Bk.ckw ?_ | refine Bk.callS ?_ | refine Bk.clAs ?_ | refine Bk.notL ?_ | refine Bk.revT ?_)
  | ((with_reducible refine' Wp.var ?hv ?_); (case hv => exact rfl))
  | ((with_reducible refine' Wp.ixl ?hs ?he ?_); (case hs => first | exact SqL.of upd_same | exact SqL.of (by assumption) | assumption); (case he => exact rfl))
  | ((with_reducible refine' Wp.setl ?hs ?he ?_); (case hs => first | exact upd_same | assumption); (case he => exact rfl))
  | ((with_reducible refine' Wp.modP ?hs ?_); (case hs => first | decide | omega))
  | ((with_reducible refine' Wp.divN ?hs ?ht ?_); (case hs => first | decide | omega); (case ht => first | decide | omega))
  | ((with_reducible refine' Wp.mulM ?hs ?ht ?_); (case hs => decide); (case ht => decide))
  | ((with_reducible refine' Wp.mulL ?hs ?_); (case hs => omega))
  | ((with_reducible refine' Wp.mulR ?hs ?_); (case hs => omega))
  | ((with_reducible refine' Wp.powS ?hs ?_); (case hs => decide))
  | ((with_reducible refine' Wp.shr ?hs ?_); (case hs => decide))
  | ((with_reducible refine' Wp.szl ?hs ?_); (case hs => first | decide | (simp; done)))
  | ((with_reducible refine' Wp.lenL ?hs ?_); (case hs => first | exact SqL.of upd_same | exact SqL.of (by assumption) | assumption))
  | ((with_reducible refine' Wp.lenT ?hs ?_); (case hs => first | exact SqT.of upd_same | exact SqT.of (by assumption) | assumption))
  | ((with_reducible refine' Wp.iteC ?hs ?_); (case hs => exact rfl)) | ((with_reducible refine' Wp.iteD ?hs ?_); (case hs => exact Bool.false_ne_true))
  | ((with_reducible refine' Wp.wp ?hs ?_); (case hs => rfl))
  | (with_reducible first | refine Wp.abs ?_ | refine Wp.max2 ?_ | refine Wp.min2 ?_)
  | ((with_reducible refine' Wp.sll ?hs ?_); (case hs => first | exact SqL.of upd_same | exact SqL.of (by assumption) | assumption)))
local macro_rules | `(tactic| walk_at "KQ") => `(tactic| first
  | exact Wp.kq "int" rfl (by decide +kernel) | exact Wp.kq "bool" rfl (by decide +kernel) | exact Wp.kq "str" rfl (by decide +kernel) | exact Wp.kq "list" rfl (by decide +kernel)
  | exact Wp.kq "tuple" rfl (by decide +kernel) | exact Wp.kq "NoneType" rfl (by decide +kernel) | exact Wp.kq "dict" rfl (by decide +kernel))

section
variable {P : Program} {w : World} {K : PySem.W.Frag} {mg : Str → Option Value} {base : Heap}
/-! whether a book is settled -/
structure StC (K : PySem.W.Frag) (X : Addr) : Prop where
  cl : Cls K X
  nH : NoAttr K X "holds"
  nM : NoAttr K X "meets"
  nT : NoAttr K X "text"
  nE : NoAttr K X "ends"
def st4 (h m t e : V) : List (Str × V) := putF "ends" e (putF "text" t (putF "meets" m (putF "holds" h [])))
theorem st4_e (h m t e : V) : (st4 h m t e).lookup ("ends" : Str) = some e := by
  unfold st4
  rw [lookup_putF, if_pos rfl]
theorem st4_t (h m t e : V) : (st4 h m t e).lookup ("text" : Str) = some t := by
  unfold st4
  rw [lookup_putF, if_neg (by decide +kernel), lookup_putF, if_pos rfl]
theorem st4_m (h m t e : V) : (st4 h m t e).lookup ("meets" : Str) = some m := by
  unfold st4
  rw [lookup_putF, if_neg (by decide +kernel), lookup_putF, if_neg (by decide +kernel), lookup_putF, if_pos rfl]
theorem st4_h (h m t e : V) : (st4 h m t e).lookup ("holds" : Str) = some h := by
  unfold st4
  rw [lookup_putF, if_neg (by decide +kernel), lookup_putF, if_neg (by decide +kernel), lookup_putF, if_neg (by decide +kernel), lookup_putF, if_pos rfl]
def spStI (X : Addr) : Sp := fun vs H Q _ => ∃ p dx h m t e, vs = [.ref p, h, m, t, e] ∧ H p = some (.ins X dx []) ∧ ∀ H', Keep p H H' → H' p = some (.ins X dx (st4 h m t e)) → Q .non H'
theorem ok_stI (B : Wp.Blt mg) {f X : Addr} {fd : FuncData} (F : Fun K "__init__" "Settled.__init__" s_Settled___init__ f fd) (T : StC K X) : FnOk P w K mg base CX0 1 f fd ["self", "holds", "meets", "text", "ends"] (spStI X) := by
  refine F.ok sc_Settled___init__ (fun vs H Q E h => ?_) (fun cdv A outer s H vs Q E hr h => ?_)
  · obtain ⟨p, dx, h, m, t, e, rfl, _⟩ := h
    rfl
  · obtain ⟨p, dx, h, m, t, e, rfl, hp, q⟩ := h
    refine ⟨_, (pss_cons (Wp.wsfld (K := K) (ps_fld (pv 0) (pv 1) rfl))
  (pss_cons (Wp.wsfld (K := K) (ps_fld (pv 0) (pv 2) rfl))
  (pss_cons (Wp.wsfld (K := K) (ps_fld (pv 0) (pv 3) rfl))
  (pss_one (Wp.wsfld (K := K) (ps_fld (pv 0) (pv 4) rfl)))))), ?_⟩
    refine Wp.st (σ' := [some (.ref p), some h, some m, some t, some e]) rfl ?_
    have l1 := length_putF "holds" h []
    have l2 := length_putF "meets" m (putF "holds" h [])
    have l3 := length_putF "text" t (putF "meets" m (putF "holds" h []))
    have big : (8 : Nat) < sizeLine := by decide
    have l0 : ([] : List (Str × V)).length = 0 := rfl
    repeat walk_at "W"
    refine ⟨p, X, dx, [], rfl, hp, T.cl, T.nH, by decide, ?_⟩
    repeat walk_at "W"
    refine ⟨p, X, dx, _, rfl, upd_same, T.cl, T.nM, by omega, ?_⟩
    repeat walk_at "W"
    refine ⟨p, X, dx, _, rfl, upd_same, T.cl, T.nT, by omega, ?_⟩
    repeat walk_at "W"
    refine ⟨p, X, dx, _, rfl, upd_same, T.cl, T.nE, by omega, ?_⟩
    exact q _ ((((Keep.upd p H _).trans (Keep.upd p _ _)).trans (Keep.upd p _ _)).trans (Keep.upd p _ _)) upd_same
def spStB (X : Addr) : Sp := fun vs H Q _ => ∃ p dx fs b, vs = [.ref p] ∧ H p = some (.ins X dx fs) ∧ fs.lookup ("holds" : Str) = some (.bl b) ∧ Q (.bl b) H
theorem ok_stB (B : Wp.Blt mg) {f X : Addr} {fd : FuncData} (F : Fun K "__bool__" "Settled.__bool__" s_Settled___bool__ f fd) (T : StC K X) : FnOk P w K mg base CX0 1 f fd ["self"] (spStB X) := by
  refine F.ok sc_Settled___bool__ (fun vs H Q E h => ?_) (fun cdv A outer s H vs Q E hr h => ?_)
  · obtain ⟨p, dx, fs, b, rfl, _⟩ := h
    rfl
  · obtain ⟨p, dx, fs, b, rfl, hp, hl, q⟩ := h
    refine ⟨_, (pss_one (ps_ret (pe_callTy call_bool1 (by rfl) B.bool (by decide +kernel) (pa_cons (Wp.wfld (K := K) (pe_fld (pv 0) rfl)) pa_nil)))), ?_⟩
    refine Wp.st (σ' := [some (.ref p)]) rfl ?_
    repeat walk_at "W"
    refine ⟨p, X, dx, fs, _, rfl, hp, T.cl, T.nH, hl, ?_⟩
    repeat walk_at "W"
    exact .inr ⟨b, rfl, q⟩
/-- what is never asked -/
def spNo : Sp := fun _ _ _ _ => False
/-- what a settled book's overlaps leave over -/
abbrev meetV (rs : List (Str × Str)) (os : List Ov) : List V := os.map fun o => V.str (mkS (overP rs (cl o.1)))
/-- of a settled book -/
def spSettled (C X : Addr) : Sp := fun vs H Q _ => ∃ p sg rs, vs = [.ref p] ∧ BookAt C H p sg rs ∧ Settled rs ∧
  ∀ H' e dx m os, Same H H' → H e = none → H' e = some (.ins X dx (st4 (.bl true) (.ref m) .non .non)) → H' m = some (.tup (meetV rs os)) → OvSorted os (ovAll rs) → Q (.ref e) H'
end
end K09
set_option Elab.async false
set_option linter.all false
set_option maxRecDepth 100000
set_option maxHeartbeats 8000000
namespace K09
open PySem PySem.Spec PyProof.Rows L2 Bk
open Cf (Step Star)
open Wp (Keep wo_lt wo_le wo_gt wo_ge wo_eq wo_ne wo_in wo_nin wo_add wo_mul op_shlB ws_any wc_int wc_isi u65)
local macro_rules | `(tactic| walk_at "W") => `(tactic| first
  | (with_reducible first
    | refine Wp.seq ?_ | refine Wp.asg ?_ | refine Wp.ret ?_ | refine Wp.retN ?_ | refine Wp.drop ?_ | refine Wp.nxt ?_ | refine Wp.ifs ?_ | refine Wp.gname ?_
    | refine Wp.op ?_ | refine Wp.un ?_ | refine Wp.tst ?_ | refine Wp.tb' ?_ | refine Wp.tnot ?_ | refine Wp.tand ?_ | refine Wp.tor ?_ | refine Wp.tandV ?_ | refine Wp.torV ?_ | refine Wp.tnotV ?_ | refine Wp.tif ?_ | refine Wp.tchain ?_
    | refine Wp.cb ?_ | refine Wp.call ?_ | refine Wp.cons ?_ | refine Wp.nil ?_ | refine Wp.gsub ?_ | refine Wp.cst ?_ | refine Wp.i0 ?_ | refine Wp.int1 ?_ | refine Wp.eb ?_ | refine Wp.ei ?_
    | refine Wp.gnil ?_ | refine Wp.gcons ?_ | refine Wp.mko ?_ | refine Wp.bm ?_ | refine Wp.ienum ?_ | refine Wp.tru ?_ | refine Wp.u1 ?_ | refine Wp.for_ ?_ | refine Wp.lc ?_ | refine Wp.istr ?_ | refine Wp.ilist ?_ | refine Wp.itup ?_ | refine Wp.irng1 ?_ | refine Wp.irng2 ?_ | refine Wp.yes ?_ | refine Wp.es ?_ | refine Wp.er ?_ | refine Wp.sl ?_ | refine Wp.nopart ?_ | refine Wp.part ?_ | refine Wp.lst ?_ | refine Wp.tup ?_
    | refine Wp.din ?_ | refine Wp.dnotin ?_ | refine Wp.dget ?_ | refine Wp.dget2 ?_ | refine Wp.dput ?_ | refine Wp.dnewK ?_ | refine Wp.dnewT ?_ | refine Wp.bm0 ?_ | refine Wp.m1 ?_ | refine Wp.exs ?_ | refine Wp.is0 ?_ | refine Wp.isnot0 ?_ | refine Wp.fld ?_ | refine Wp.sfld ?_
    | refine Wp.par ?_ | refine Wp.parV ?_ | refine Wp.brk ?_ | refine Wp.aug ?_ | refine Wp.ipaI ?_ | refine Wp.ipsI ?_ | refine Bk.ienumS ?_ | refine Wp.make_ ?_ | refine Wp.itnn ?_ | refine Wp.ltI ?_ | refine Wp.leI ?_ | refine Wp.leS ?_ | refine Wp.inSg ?_ | refine Wp.gtI ?_ | refine Wp.geI ?_ | refine Wp.eqI ?_ | refine Wp.neI ?_ | refine Wp.addI ?_ | refine Wp.ltS ?_ | refine Wp.eqS ?_ | refine Wp.neS ?_
    | refine Bk.ckw ?_ | refine Bk.callS ?_ | refine Bk.clAs ?_ | refine Bk.notL ?_ | refine Bk.revT ?_)
  | ((with_reducible refine' Wp.var ?hv ?_); (case hv => exact rfl))
  | ((with_reducible refine' Wp.ixl ?hs ?he ?_); (case hs => first | exact SqL.of upd_same | exact SqL.of (by assumption) | assumption); (case he => exact rfl))
  | ((with_reducible refine' Wp.setl ?hs ?he ?_); (case hs => first | exact upd_same | assumption); (case he => exact rfl))
  | ((with_reducible refine' Wp.modP ?hs ?_); (case hs => first | decide | omega))
  | ((with_reducible refine' Wp.divN ?hs ?ht ?_); (case hs => first | decide | omega); (case ht => first | decide | omega))
  | ((with_reducible refine' Wp.mulM ?hs ?ht ?_); (case hs => decide); (case ht => decide))
  | ((with_reducible refine' Wp.mulL ?hs ?_); (case hs => omega))
  | ((with_reducible refine' Wp.mulR ?hs ?_); (case hs => omega))
  | ((with_reducible refine' Wp.powS ?hs ?_); (case hs => decide))
  | ((with_reducible refine' Wp.shr ?hs ?_); (case hs => decide))
  | ((with_reducible refine' Wp.szl ?hs ?_); (case hs => first | decide | (simp; done)))
  | ((with_reducible refine' Wp.lenL ?hs ?_); (case hs => first | exact SqL.of upd_same | exact SqL.of (by assumption) | assumption))
  | ((with_reducible refine' Wp.lenT ?hs ?_); (case hs => first | exact SqT.of upd_same | exact SqT.of (by assumption) | assumption))
  | ((with_reducible refine' Wp.iteC ?hs ?_); (case hs => exact rfl)) | ((with_reducible refine' Wp.iteD ?hs ?_); (case hs => exact Bool.false_ne_true))
  | ((with_reducible refine' Wp.wp ?hs ?_); (case hs => rfl))
  | (with_reducible first | refine Wp.abs ?_ | refine Wp.max2 ?_ | refine Wp.min2 ?_)
  | ((with_reducible refine' Wp.sll ?hs ?_); (case hs => first | exact SqL.of upd_same | exact SqL.of (by assumption) | assumption)))
local macro_rules | `(tactic| walk_at "KQ") => `(tactic| first
  | exact Wp.kq "int" rfl (by decide +kernel) | exact Wp.kq "bool" rfl (by decide +kernel) | exact Wp.kq "str" rfl (by decide +kernel) | exact Wp.kq "list" rfl (by decide +kernel)
  | exact Wp.kq "tuple" rfl (by decide +kernel) | exact Wp.kq "NoneType" rfl (by decide +kernel) | exact Wp.kq "dict" rfl (by decide +kernel))

theorem keep_sqT {K : PySem.W.Frag} {D : Addr} {H H' : Hp} {kvs : List (Key × V)} (k : Keep D H H') (hD : H D = some (.dK kvs)) {T : Addr} {vs : List V} (s : SqT K H T vs) : SqT K H' T vs := by
  rcases s with (e | ⟨u, e⟩) | e
  · exact .inl (.inl (k T _ (ne_of e hD (by intro z; cases z)) e))
  · exact .inl (.inr ⟨u, k T _ (ne_of e hD (by intro z; cases z)) e⟩)
  · exact .inr e
theorem pairs_at' {K : PySem.W.Frag} {H : Hp} : ∀ {ws : List V} {ps : List (Nat × Nat)} {k : Nat} {x : V}, DpAll K H ws (ps.map pairD) → ws[k]? = some x → ∃ p, ps[k]? = some p ∧ ∃ T, x = .ref T ∧ SqT K H T [.int (p.1 : Nat), .int (p.2 : Nat)]
  | [], _, _, _, _, e => by simp at e
  | w :: ws, [], _, _, h, _ => by cases h
  | w :: ws, p :: ps, k, x, h, e => by
    cases h with
    | cons h1 h2 =>
      cases k with
      | succ k =>
        obtain ⟨p', h', r'⟩ := pairs_at' (k := k) h2 (by simpa using e)
        exact ⟨p', by simpa using h', r'⟩
      | zero =>
        cases e
        refine ⟨p, rfl, ?_⟩
        unfold pairD at h1
        cases h1 with
        | @tup a ys _ hs ha =>
          cases ha with
          | cons a1 ha =>
            cases ha with
            | cons a2 ha =>
              cases ha; cases a1; cases a2
              exact ⟨_, rfl, hs⟩
section
variable {P : Program} {w : World} {K : PySem.W.Frag} {mg : Str → Option Value} {base : Heap}
/-- what the steps of a text leave over -/
structure EndsL (rs : List (Str × Str)) (z : List Nat) (us : List (List Nat)) : Prop where
  srt : us.Pairwise fun x y => txLe x y = true
  nd : us.Nodup
  mem : ∀ u, u ∈ us ↔ ∃ p ∈ stepsL rs z, overP rs (aimOf rs z p) = u
def spEoq : Sp := fun vs H Q _ => ∃ t bs rs z, vs = [.ref t, .str z] ∧ H t = some (.tup (bs.map V.ref)) ∧ RulesAt H bs rs ∧ rs.length ≤ 64 ∧ Good rs ∧ z.length ≤ 200 ∧ ∀ H' T us, Same H H' → H' T = some (.tup (tx us)) → EndsL rs (cl z) us → Q (.ref T) H'
theorem ok_eoqs (B : Wp.Blt mg) {f fR fN fS fU fL fA : Addr} {fd fdR fdN fdS fdU fdL fdA : FuncData} (F : Fun K "ends_of_quarrel" "ends_of_quarrel" s_ends_of_quarrel f fd)
    (D_first_rights : Wp.Dh K mg "first_rights" fR fdR ["rules"]) (G_first_rights : FnOk P w K mg base CX0 1 fR fdR ["rules"] spRights)
    (D_numbers_of : Wp.Dh K mg "numbers_of" fN fdN ["rules"]) (G_numbers_of : FnOk P w K mg base CX0 1 fN fdN ["rules"] (spNums K))
    (D_steps_of : Wp.Dh K mg "steps_of" fS fdS ["numbers", "text"]) (G_steps_of : FnOk P w K mg base CX0 1 fS fdS ["numbers", "text"] (spStepsOf K))
    (D_used : Wp.Dh K mg "used" fU fdU ["rules", "text", "place", "number"]) (G_used : FnOk P w K mg base CX0 1 fU fdU ["rules", "text", "place", "number"] spUsed)
    (D_left_over : Wp.Dh K mg "left_over" fL fdL ["rights", "text"]) (G_left_over : FnOk P w K mg base CX0 3 fL fdL ["rights", "text"] spLeft)
    (D_ascending_texts : Wp.Dh K mg "ascending_texts" fA fdA ["texts"]) (G_ascending_texts : FnOk P w K mg base CX0 1 fA fdA ["texts"] (spAsc K)) : FnOk P w K mg base CX0 4 f fd ["rules", "text"] spEoq := by
  refine F.ok sc_ends_of_quarrel (fun vs H Q E h => ?_) (fun cdv A outer s H vs Q E hr h => ?_)
  · obtain ⟨t, bs, rs, z, rfl, _⟩ := h
    rfl
  · obtain ⟨t, bs, rs, z, rfl, ht, hb, hl, hg, hz, q⟩ := h
    refine ⟨_, (pss_cons (ps_set (i := 2) sc_ends_of_quarrel.nd rfl (by first | exact .inl rfl | exact .inr rfl) (pe_call G_first_rights (hr.mono (by decide)) (by rfl) D_first_rights.g D_first_rights.k D_first_rights.b .nil pass0 (pa_cons (pv 0) pa_nil)))
  (pss_cons (ps_set (i := 3) sc_ends_of_quarrel.nd rfl (by first | exact .inl rfl | exact .inr rfl) pe_dnewK)
  (pss_cons (ps_for PassesOwn.never rfl (Wp.wi_list (K := K) (pe_call G_steps_of (hr.mono (by decide)) (by rfl) D_steps_of.g D_steps_of.k D_steps_of.b .nil pass0 (pa_cons (pe_call G_numbers_of (hr.mono (by decide)) (by rfl) D_numbers_of.g D_numbers_of.k D_numbers_of.b .nil pass0 (pa_cons (pv 0) pa_nil)) (pa_cons (pv 1) pa_nil)))) (Wp.wg_tup (K := K) (n := 2) rfl (pgs_cons (pg_name (i := 4) sc_ends_of_quarrel.nd rfl (by first | exact .inl rfl | exact .inr rfl)) (pgs_cons (pg_name (i := 5) sc_ends_of_quarrel.nd rfl (by first | exact .inl rfl | exact .inr rfl)) pgs_nil))) (pss_one (ps_dput (hu_of hr) (pv 3) (pe_call G_left_over (hr.mono (by decide)) (by rfl) D_left_over.g D_left_over.k D_left_over.b .nil pass0 (pa_cons (pv 2) (pa_cons (pe_call G_used (hr.mono (by decide)) (by rfl) D_used.g D_used.k D_used.b .nil pass0 (pa_cons (pv 0) (pa_cons (pv 1) (pa_cons (pv 4) (pa_cons (pv 5) pa_nil))))) pa_nil))) pe_bl rfl)))
  (pss_one (ps_ret (pe_call G_ascending_texts (hr.mono (by decide)) (by rfl) D_ascending_texts.g D_ascending_texts.k D_ascending_texts.b .nil pass0 (pa_cons (pe_callTy (call_list_dK (by rfl)) (by rfl) B.list (by decide +kernel) (pa_cons (pv 3) pa_nil)) pa_nil))))))), ?_⟩
    refine Wp.st (σ' := [some (.ref t), some (.str z), none, none, none, none]) rfl ?_
    have hbig : (1000000 : Nat) < sizeLine := by decide
    repeat walk_at "W"
    refine ⟨t, bs, rs, rfl, ht, hb, hl, fun H1 d s1 hR => ?_⟩
    repeat walk_at "W"
    intro D hD
    have sD := Wp.same_upd (o := .dK []) hD
    have vD := upd_same (H := H1) (a := D) (o := .dK [])
    generalize upd H1 D (.dK []) = H2 at sD vD ⊢
    repeat walk_at "W"
    refine ⟨t, bs, rs, rfl, sD _ _ (s1 _ _ ht), hb.same (s1.trans sD), hl, fun H3 n s3 hN => ?_⟩
    repeat walk_at "W"
    refine ⟨n, rs, z, rfl, hN, hg, hl, by omega, fun H4 f2 ws s4 hf0 hf2 hw2 hwl2 => ?_⟩
    have hwl := Wp.dps_len hw2
    rw [List.length_map] at hwl
    have hws : ws.length ≤ 200 * 64 := by
      rw [hwl]
      unfold stepsL
      refine Nat.le_trans (flat_len (c := 64) _ fun p _ => ?_) ?_
      · rw [List.length_map]
        refine Nat.le_trans (List.length_filter_le _ _) ?_
        rw [List.length_range]; exact hl
      · rw [List.length_range, len_cl]; omega
    have hD4 := s4 _ _ (s3 _ _ vD)
    have hfD : f2 ≠ D := fun e => by rw [e, s3 _ _ vD] at hf0; cases hf0
    have s14 : Same H1 H4 := (sD.trans s3).trans s4
    have hfree : ∀ {G : Hp}, Keep D H4 G → Same H1 G := fun k b o e => k b o (ne_of_none e hD) (s14 _ _ e)
    refine ⟨f2, rfl, ⟨_, SqL.of hf2⟩, Wp.forIt (walk_list (xs := ws)) (fun i σ1 G => ∃ x4 x5 kvs, σ1 = [some (.ref t), some (.str z), some (.ref d), some (.ref D), x4, x5] ∧ Keep D H4 G ∧ G D = some (.dK kvs) ∧ KeyN kvs ∧ kvs.length ≤ i ∧ ∀ u, fnd kvs u ↔ ∃ j p, j < i ∧ (stepsL rs (cl z))[j]? = some p ∧ overP rs (aimOf rs (cl z) p) = u)
      ⟨_, _, [], rfl, Keep.refl _ _, hD4, ⟨by simp, by simp⟩, by simp, fun u => by simp [fnd, valV]⟩ (fun i σ1 G _ ⟨_, _, _, _, k, _⟩ => SqL.of (k _ _ hfD hf2)) ?_ ?_⟩
    · rintro i x σ1 G G' hi ⟨x4, x5, kvs, rfl, k5, hD5, hK, hkl, hm⟩ ⟨rfl, hx⟩
      obtain ⟨⟨a, m⟩, hst, T, rfl, hT⟩ := pairs_at' hw2 hx
      simp only at hT
      obtain ⟨l, r, hlr, hau, hcu, hstep⟩ := step_aim (List.mem_of_getElem? hst)
      obtain ⟨g1, g2, g3⟩ := hg _ (List.mem_of_getElem? hlr)
      simp only at g1 g2 g3
      have s5 := hfree k5
      have hal := hstep.lt (rr_short hg)
      rw [len_cl] at hal
      refine Wp.gt (keep_sqT k5 hD4 hT) rfl ?_
      repeat walk_at "W"
      refine ⟨t, bs, rs, z, (a : Nat), m, l, r, rfl, s5 _ _ (s1 _ _ ht), hb.same (s1.trans s5), hlr, by omega, by omega, by omega, ?_⟩
      rw [mk_cl] at hcu
      rw [show usedS z (a : Nat) l r = mkS (aimOf rs (cl z) (a, m)) from by rw [← hcu, mk_cl]]
      repeat walk_at "W"
      refine ⟨d, rs, mkS (aimOf rs (cl z) (a, m)), rfl, hR.same s5, hg, by rw [len_mk]; omega, fun G2 s6 => ?_⟩
      rw [cl_mk]
      have hD6 := s6 _ _ hD5
      repeat walk_at "W"
      refine Wp.dK_put hD6 (by omega) ?_
      refine ⟨_, _, _, rfl, (k5.trans (Keep.of s6)).trans (Keep.upd D _ _), upd_same, hK.put, Nat.le_trans (length_putK kvs _ _) (by omega), fun u => ?_⟩
      rw [fnd_put, hm]
      constructor
      · rintro (e | ⟨j, p, h1, h2, h3⟩)
        · exact ⟨i, (a, m), by omega, hst, e.symm⟩
        · exact ⟨j, p, by omega, h2, h3⟩
      · rintro ⟨j, p, h1, h2, h3⟩
        by_cases e : j = i
        · subst e
          rw [hst] at h2; cases h2
          exact .inl h3.symm
        · exact .inr ⟨j, p, by omega, h2, h3⟩
    · rintro σ1 G ⟨x4, x5, kvs, rfl, k5, hD5, hK, hkl, hm⟩
      have s5 := hfree k5
      have htl : (txsOf kvs).length = kvs.length := by unfold txsOf; rw [List.length_map]
      have hmem : ∀ u, u ∈ txsOf kvs ↔ ∃ p ∈ stepsL rs (cl z), overP rs (aimOf rs (cl z) p) = u := fun u => by
        rw [hK.mem, hm]
        constructor
        · rintro ⟨j, p, h1, h2, h3⟩
          exact ⟨p, List.mem_of_getElem? h2, h3⟩
        · rintro ⟨p, h1, h2⟩
          obtain ⟨j, hj, e⟩ := List.getElem_of_mem h1
          exact ⟨j, p, by omega, by rw [List.getElem?_eq_getElem hj, e], h2⟩
      have hul : ∀ u ∈ txsOf kvs, u.length ≤ 200 := fun u hu => by
        obtain ⟨⟨a, m⟩, h1, rfl⟩ := (hmem u).mp hu
        obtain ⟨_, _, _, _, _, hstep⟩ := step_aim h1
        have h2 := hstep.lt (rr_short hg)
        have h3 := ((nf_over hg).star (aimOf rs (cl z) (a, m))).le (rr_short hg)
        rw [len_cl] at h2
        omega
      repeat walk_at "W"
      refine ⟨D, kvs, rfl, hD5, fun L hL => ?_⟩
      rw [hK.vals]
      have u3 := Wp.same_upd (o := .lst (tx (txsOf kvs))) hL
      repeat walk_at "W"
      refine ⟨L, txsOf kvs, rfl, SqL.of upd_same, fun u hu => by have := hul u hu; omega, by omega, fun H6 T s6 _ hT => ?_⟩
      exact q H6 T _ (((s1.trans s5).trans u3).trans s6) hT ⟨asc_sorted _, (asc_perm _).nodup_iff.mpr hK.nodup, fun u => by rw [asc_mem, hmem]⟩
end
end K09
set_option Elab.async false
set_option linter.all false
set_option maxRecDepth 100000
set_option maxHeartbeats 8000000
namespace K09
open PySem PySem.Spec PyProof.Rows L2 Bk
open Wp (Keep wo_lt wo_le wo_gt wo_ge wo_eq wo_ne wo_in wo_nin wo_add wo_mul op_shlB ws_any wc_int wc_isi u65)
local macro_rules | `(tactic| walk_at "W") => `(tactic| first
  | (with_reducible first
    | refine Wp.seq ?_ | refine Wp.asg ?_ | refine Wp.ret ?_ | refine Wp.retN ?_ | refine Wp.drop ?_ | refine Wp.nxt ?_ | refine Wp.ifs ?_ | refine Wp.gname ?_
    | refine Wp.op ?_ | refine Wp.un ?_ | refine Wp.tst ?_ | refine Wp.tb' ?_ | refine Wp.tnot ?_ | refine Wp.tand ?_ | refine Wp.tor ?_ | refine Wp.tandV ?_ | refine Wp.torV ?_ | refine Wp.tnotV ?_ | refine Wp.tif ?_ | refine Wp.tchain ?_
    | refine Wp.cb ?_ | refine Wp.call ?_ | refine Wp.cons ?_ | refine Wp.nil ?_ | refine Wp.gsub ?_ | refine Wp.cst ?_ | refine Wp.i0 ?_ | refine Wp.int1 ?_ | refine Wp.eb ?_ | refine Wp.ei ?_
    | refine Wp.gnil ?_ | refine Wp.gcons ?_ | refine Wp.mko ?_ | refine Wp.bm ?_ | refine Wp.ienum ?_ | refine Wp.tru ?_ | refine Wp.u1 ?_ | refine Wp.for_ ?_ | refine Wp.lc ?_ | refine Wp.istr ?_ | refine Wp.ilist ?_ | refine Wp.itup ?_ | refine Wp.irng1 ?_ | refine Wp.irng2 ?_ | refine Wp.yes ?_ | refine Wp.es ?_ | refine Wp.er ?_ | refine Wp.sl ?_ | refine Wp.nopart ?_ | refine Wp.part ?_ | refine Wp.lst ?_ | refine Wp.tup ?_
    | refine Wp.din ?_ | refine Wp.dnotin ?_ | refine Wp.dget ?_ | refine Wp.dget2 ?_ | refine Wp.dput ?_ | refine Wp.dnewK ?_ | refine Wp.dnewT ?_ | refine Wp.bm0 ?_ | refine Wp.m1 ?_ | refine Wp.exs ?_ | refine Wp.is0 ?_ | refine Wp.isnot0 ?_ | refine Wp.fld ?_ | refine Wp.sfld ?_
    | refine Wp.par ?_ | refine Wp.parV ?_ | refine Wp.brk ?_ | refine Wp.aug ?_ | refine Wp.ipaI ?_ | refine Wp.ipsI ?_ | refine Bk.ienumS ?_ | refine Wp.make_ ?_ | refine Wp.itnn ?_ | refine Wp.ltI ?_ | refine Wp.leI ?_ | refine Wp.leS ?_ | refine Wp.inSg ?_ | refine Wp.gtI ?_ | refine Wp.geI ?_ | refine Wp.eqI ?_ | refine Wp.neI ?_ | refine Wp.addI ?_ | refine Wp.ltS ?_ | refine Wp.eqS ?_ | refine Wp.neS ?_
    | refine Bk.ckw ?_ | refine Bk.callS ?_ | refine Bk.clAs ?_ | refine Bk.notL ?_ | refine Bk.revT ?_)
  | ((with_reducible refine' Wp.var ?hv ?_); (case hv => exact rfl))
  | ((with_reducible refine' Wp.ixl ?hs ?he ?_); (case hs => first | exact SqL.of upd_same | exact SqL.of (by assumption) | assumption); (case he => exact rfl))
  | ((with_reducible refine' Wp.setl ?hs ?he ?_); (case hs => first | exact upd_same | assumption); (case he => exact rfl))
  | ((with_reducible refine' Wp.modP ?hs ?_); (case hs => first | decide | omega))
  | ((with_reducible refine' Wp.divN ?hs ?ht ?_); (case hs => first | decide | omega); (case ht => first | decide | omega))
  | ((with_reducible refine' Wp.mulM ?hs ?ht ?_); (case hs => decide); (case ht => decide))
  | ((with_reducible refine' Wp.mulL ?hs ?_); (case hs => omega))
  | ((with_reducible refine' Wp.mulR ?hs ?_); (case hs => omega))
  | ((with_reducible refine' Wp.powS ?hs ?_); (case hs => decide))
  | ((with_reducible refine' Wp.shr ?hs ?_); (case hs => decide))
  | ((with_reducible refine' Wp.szl ?hs ?_); (case hs => first | decide | (simp; done)))
  | ((with_reducible refine' Wp.lenL ?hs ?_); (case hs => first | exact SqL.of upd_same | exact SqL.of (by assumption) | assumption))
  | ((with_reducible refine' Wp.lenT ?hs ?_); (case hs => first | exact SqT.of upd_same | exact SqT.of (by assumption) | assumption))
  | ((with_reducible refine' Wp.iteC ?hs ?_); (case hs => exact rfl)) | ((with_reducible refine' Wp.iteD ?hs ?_); (case hs => exact Bool.false_ne_true))
  | ((with_reducible refine' Wp.wp ?hs ?_); (case hs => rfl))
  | (with_reducible first | refine Wp.abs ?_ | refine Wp.max2 ?_ | refine Wp.min2 ?_)
  | ((with_reducible refine' Wp.sll ?hs ?_); (case hs => first | exact SqL.of upd_same | exact SqL.of (by assumption) | assumption)))
local macro_rules | `(tactic| walk_at "KQ") => `(tactic| first
  | exact Wp.kq "int" rfl (by decide +kernel) | exact Wp.kq "bool" rfl (by decide +kernel) | exact Wp.kq "str" rfl (by decide +kernel) | exact Wp.kq "list" rfl (by decide +kernel)
  | exact Wp.kq "tuple" rfl (by decide +kernel) | exact Wp.kq "NoneType" rfl (by decide +kernel) | exact Wp.kq "dict" rfl (by decide +kernel))

section
variable {P : Program} {w : World} {K : PySem.W.Frag} {mg : Str → Option Value} {base : Heap}
/-- of any book -/
def spSettledX (C X : Addr) : Sp := fun vs H Q _ => ∃ p sg rs, vs = [.ref p] ∧ BookAt C H p sg rs ∧ (∀ z, (∃ os, OvSorted os (ovAll rs) ∧ QuarAt rs os (.str z)) → z.length ≤ 200) ∧ ∀ os0 v, OvSorted os0 (ovAll rs) → QuarAt rs os0 v →
  (v = .non → ∀ H' e dx m os, Same H H' → H e = none → H' e = some (.ins X dx (st4 (.bl true) (.ref m) .non .non)) → H' m = some (.tup (meetV rs os)) → OvSorted os (ovAll rs) → Q (.ref e) H') ∧
  (∀ z, v = .str z → ∀ H' e dx T us, Same H H' → H e = none → H' e = some (.ins X dx (st4 (.bl false) .non (.str z) (.ref T))) → H' T = some (.tup (tx us)) → EndsL rs (cl z) us → Q (.ref e) H')
theorem ok_settledX (B : Wp.Blt mg) {f fq pq fR fO fL fI C X : Addr} {fd fdq fdR fdO fdL fdI : FuncData} (F : Fun K "settled" "settled" s_settled f fd) (TB : BkC K C) (TX : StC K X) (Pq : PropOf K C "quarrel" pq fq)
    (Gq : FnOk P w K mg base CX0 1 fq fdq ["self"] (getSp C "_quarrel")) (bq : Binds K fdq ["self"] [])
    {fE : Addr} {fdE : FuncData} (D_ends_of_quarrel : Wp.Dh K mg "ends_of_quarrel" fE fdE ["rules", "text"]) (G_ends_of_quarrel : FnOk P w K mg base CX0 4 fE fdE ["rules", "text"] spEoq)
    (D_first_rights : Wp.Dh K mg "first_rights" fR fdR ["rules"]) (G_first_rights : FnOk P w K mg base CX0 1 fR fdR ["rules"] spRights)
    (D_overlaps_of : Wp.Dh K mg "overlaps_of" fO fdO ["rules"]) (G_overlaps_of : FnOk P w K mg base CX0 2 fO fdO ["rules"] (spOvS K))
    (D_left_over : Wp.Dh K mg "left_over" fL fdL ["rights", "text"]) (G_left_over : FnOk P w K mg base CX0 3 fL fdL ["rights", "text"] spLeft)
    (M_Settled : Mk K X fI) (k_Settled : mg "Settled" = some (.ref X)) (G_Settled : FnOk P w K mg base CX0 1 fI fdI ["self", "holds", "meets", "text", "ends"] (spStI X)) (b_Settled : Binds K fdI ["self", "holds", "meets", "text", "ends"] []) : FnOk P w K mg base CX0 5 f fd ["book"] (spSettledX C X) := by
  refine F.ok sc_settled (fun vs H Q E h => ?_) (fun cdv A outer s H vs Q E hr h => ?_)
  · obtain ⟨p, sg, rs, rfl, _⟩ := h
    rfl
  · obtain ⟨p, sg, rs, rfl, hB, hz2, q⟩ := h
    refine ⟨_, (pss_cons (ps_set (i := 1) sc_settled.nd rfl (by first | exact .inl rfl | exact .inr rfl) (pe_prop (pv 0) TB.cl Pq Gq (hr.mono (by decide)) bq .nil pass0 rfl))
  (pss_cons (ps_if (pt_cmpR Wp.wo_isnot (pv 1) pe_non (nomark _)) (pss_one (ps_ret (pe_make M_Settled G_Settled (hr.mono (by decide)) (by rfl) k_Settled b_Settled .nil pass0 (pa_cons pe_bl (pa_cons pe_non (pa_cons (pv 1) (pa_cons (pe_call G_ends_of_quarrel (hr.mono (by decide)) (by rfl) D_ends_of_quarrel.g D_ends_of_quarrel.k D_ends_of_quarrel.b .nil pass0 (pa_cons (Wp.wfld (K := K) (pe_fld (pv 0) rfl)) (pa_cons (pv 1) pa_nil))) pa_nil))))))) pss_nil)
  (pss_cons (ps_set (i := 2) sc_settled.nd rfl (by first | exact .inl rfl | exact .inr rfl) (pe_call G_first_rights (hr.mono (by decide)) (by rfl) D_first_rights.g D_first_rights.k D_first_rights.b .nil pass0 (pa_cons (Wp.wfld (K := K) (pe_fld (pv 0) rfl)) pa_nil)))
  (pss_cons (ps_setLc (i := 5) (own := [("met", 3), ("_", 4)]) (g := (Wp.gTupU K 4 (gCons (gName 3) (gCons (gName 4) (gCons (gName 4) (gCons (gName 4) gNil)))))) (by rfl) sc_settled.nd rfl rfl (sw_true rfl rfl rfl (by decide +kernel)) (Wp.wi_tup (K := K) (pe_call G_overlaps_of (hr.mono (by decide)) (by rfl) D_overlaps_of.g D_overlaps_of.k D_overlaps_of.b .nil pass0 (pa_cons (Wp.wfld (K := K) (pe_fld (pv 0) rfl)) pa_nil))) (blkOk_by (own := [("met", 3), ("_", 4)]) (N := N_settled) (sc := defScope s_settled) (by decide +kernel)) (fun _ _ _ _ _ => Wp.wg_tup (K := K) (n := 4) rfl (pgs_cons (pg_name (i := 3) sc_settled.nd rfl (Or.inl rfl)) (pgs_cons (pg_name (i := 4) sc_settled.nd rfl (Or.inl rfl)) (pgs_cons (pg_name (i := 4) sc_settled.nd rfl (Or.inl rfl)) (pgs_cons (pg_name (i := 4) sc_settled.nd rfl (Or.inl rfl)) pgs_nil))))) (fun _ _ _ _ _ => pts_nil) (fun _ _ _ _ _ => (pv 3)))
  (pss_cons (ps_set (i := 6) sc_settled.nd rfl (by first | exact .inl rfl | exact .inr rfl) pe_dnewK)
  (pss_cons (ps_for PassesOwn.never rfl (Wp.wi_list (K := K) (pv 5)) (pg_name (i := 3) sc_settled.nd rfl (by first | exact .inl rfl | exact .inr rfl)) (pss_one (ps_if (pt_cmp (pc_dnotin (hu_of hr) (pv 3) (pv 6))) (pss_one (ps_dput (hu_of hr) (pv 6) (pv 3) (pe_call G_left_over (hr.mono (by decide)) (by rfl) D_left_over.g D_left_over.k D_left_over.b .nil pass0 (pa_cons (pv 2) (pa_cons (pv 3) pa_nil))) rfl)) pss_nil)))
  (pss_one (ps_ret (pe_make M_Settled G_Settled (hr.mono (by decide)) (by rfl) k_Settled b_Settled .nil pass0 (pa_cons pe_bl (pa_cons (pe_callTy (Wp.wc_tuple (K := K)) (by rfl) B.tuple (by decide +kernel) (pa_cons (pe_lc (own := [("met", 3)]) (g := gName 3) (by rfl) sc_settled.nd (Wp.wi_list (K := K) (pv 5)) (blkOk_by (own := [("met", 3)]) (N := N_settled) (sc := defScope s_settled) (by decide +kernel)) (fun _ _ _ _ _ => pg_name (i := 3) sc_settled.nd rfl (Or.inl rfl)) (fun _ _ _ _ _ => pts_nil) (fun _ _ _ _ _ => (pe_dget (hu_of hr) (pv 6) (pv 3) (fun _ _ => rfl)))) pa_nil)) (pa_cons pe_non (pa_cons pe_non pa_nil))))))))))))), ?_⟩
    refine Wp.st (σ' := [some (.ref p), none, none, none, none, none, none]) rfl ?_
    have hgd := hB.g
    have hl64 := hB.l
    have hbig : (1000000 : Nat) < sizeLine := by decide
    obtain ⟨dx, t, bs, d0, qv, h1, h2, h3, h4, os0, h5, h6⟩ := hB.ex
    obtain ⟨qa, qb⟩ := q os0 qv h5 h6
    clear q
    repeat walk_at "W"
    refine ⟨.ref p, rfl, p, dx, _, rfl, h1, p, dx, _, qv, rfl, h1, bkF_quarrel _ _ _ _, ?_⟩
    repeat walk_at "W"
    rcases (show qv = .non ∨ ∃ z, qv = .str z from by
      rcases h6 with ⟨e, _⟩ | ⟨k, o, _, _, _, e⟩
      · exact .inl e
      · exact .inr ⟨_, e⟩) with e | ⟨z, e⟩
    rotate_left
    · subst e
      have hzl := hz2 z ⟨os0, h5, h6⟩
      refine Wp.iteC (by simp) ?_
      repeat walk_at "W"
      refine bk_rules TB hB fun t1 bs1 ht1 hb1 => ?_
      repeat walk_at "W"
      refine ⟨t1, bs1, rs, z, rfl, ht1, hb1, hl64, hgd, hzl, fun H1 T us s1 hT hE => ?_⟩
      repeat walk_at "W"
      intro x dx2 hx hdx hne
      have s7 : Same H1 (upd (upd H1 dx2 (.own x)) x (.ins X dx2 [])) := fun b o e => by rw [upd_ne (ne_of_none e hx), upd_ne (ne_of_none e hdx)]; exact e
      have vx := upd_same (H := upd H1 dx2 (.own x)) (a := x) (o := .ins X dx2 [])
      generalize upd (upd H1 dx2 (.own x)) x (.ins X dx2 []) = G7 at s7 vx ⊢
      refine ⟨x, dx2, .bl false, .non, .str z, .ref T, rfl, vx, fun H8 k8 h8 => ⟨rfl, ?_⟩⟩
      have s8 : Same H1 H8 := fun b o e => k8 b o (ne_of_none e hx) (s7 _ _ e)
      exact qb z rfl H8 x dx2 T us (s1.trans s8) (s1.free hx) h8 (s8 _ _ hT) hE
    have q := qa e
    subst e
    repeat walk_at "W"
    refine bk_rules TB hB fun t1 bs1 ht1 hb1 => ?_
    repeat walk_at "W"
    refine ⟨t1, bs1, rs, rfl, ht1, hb1, hl64, fun H1 d s1 hR => ?_⟩
    repeat walk_at "W"
    refine bk_rules TB (hB.same s1) fun t3 bs3 ht3 hb3 => ?_
    repeat walk_at "W"
    refine ⟨t3, bs3, rs, rfl, ht3, hb3, hl64, hgd, fun H2 t2 ws os s2 ht2 hso hws hok => ?_⟩
    have hfew : os.length ≤ 20000 := ovs_few hso hl64 hgd
    refine ⟨t2, rfl, ⟨_, SqT.of ht2⟩, fun A hA => ?_⟩
    refine Wp.lcIt (walk_tup (xs := ws)) (fun i G => Same H2 G ∧ G A = some (.lst ((os.take i).map fun o => V.str o.1))) ⟨Wp.same_upd hA, upd_same⟩ (fun i G _ h => SqT.of (h.1 _ _ ht2)) ?_ ?_
    · rintro i x G G' hi ⟨s3, hA3⟩ ⟨eG, hx⟩
      rw [eG]
      obtain ⟨o, ho⟩ : ∃ o, os[i]? = some o := ⟨_, List.getElem?_eq_getElem (show i < os.length by rw [← hws.len]; exact hi)⟩
      obtain ⟨T, hx', hT⟩ := hws.at_ i _ ho
      rw [hx] at hx'; cases hx'
      have hi' := (List.getElem?_eq_some_iff.mp ho).1
      refine Wp.gt (SqT.of (s3 _ _ hT)) rfl ?_
      repeat walk_at "W"
      refine ⟨_, hA3, by rw [List.length_map, List.length_take]; omega, fun b u e => ?_, ?_⟩
      · rw [upd_ne (ne_of_none e hA)]; exact s3 _ _ e
      · rw [upd_same, List.take_add_one, ho, List.map_append]; rfl
    · rintro G ⟨s3, hA3⟩
      rw [hws.len, List.take_length] at hA3
      repeat walk_at "W"
      intro O hO
      have sO := Wp.same_upd (o := .dK []) hO
      have hOv := upd_same (H := G) (a := O) (o := .dK [])
      have hA4 := sO _ _ hA3
      generalize upd G O (.dK []) = G1 at sO hOv hA4 ⊢
      have hAO : A ≠ O := fun e => by rw [e, hOv] at hA4; cases hA4
      repeat walk_at "W"
      have hR4 : Same H1 G1 := (s2.trans s3).trans sO
      have kp : ∀ {G2 : Hp}, Keep O G1 G2 → Same G G2 := fun k b u e => k b u (ne_of_none e hO) (sO _ _ e)
      refine ⟨⟨_, SqL.of hA4⟩, Wp.forIt (walk_list (xs := os.map fun o => V.str o.1)) (fun i σ1 G2 => ∃ x3 x4, σ1 = [some (.ref p), some .non, some (.ref d), x3, x4, some (.ref A), some (.ref O)] ∧ Keep O G1 G2 ∧ ∃ kvs : List (Key × V), G2 O = some (.dK kvs) ∧ kvs.length ≤ i ∧ (∀ x v, valV kvs (Sum.inr x) = some v → v = .str (mkS (overP rs (cl x)))) ∧ ∀ (m : Nat) (o' : Ov), m < i → os[m]? = some o' → (valV kvs (Sum.inr o'.1)).isSome = true)
        ⟨_, _, rfl, Keep.refl _ _, [], hOv, by simp, fun x v e => (nomatch e), fun m o' h => by omega⟩ (fun i σ1 G2 _ ⟨_, _, _, k, _⟩ => SqL.of (k _ _ hAO hA4)) ?_ ?_⟩
      · rintro i x σ1 G2 G2' hi ⟨x3, x4, rfl, k2, kvs, hk, hkl, hks, hmt⟩ ⟨rfl, hx⟩
        rw [List.length_map] at hi
        rw [List.getElem?_map] at hx
        obtain ⟨o, ho, rfl⟩ := Option.map_eq_some_iff.mp hx
        have ho8 := (hok _ (List.mem_of_getElem? ho)).1
        repeat walk_at "W"
        refine Wp.dK_in hk ?_
        repeat walk_at "W"
        refine Wp.itnb (fun e1 => ?_) (fun e1 => ?_)
        · repeat walk_at "W"
          refine ⟨d, rs, o.1, rfl, hR.same ((s2.trans s3).trans (kp k2)), hgd, by omega, fun G4 s4 => ?_⟩
          have hk4 := s4 _ _ hk
          repeat walk_at "W"
          refine Wp.dK_put hk4 (by omega) ?_
          refine ⟨_, _, rfl, (k2.trans (Keep.of s4)).trans (Keep.upd O _ _), _, upd_same, ?_, fun x v e => ?_, fun m o' hm ho' => ?_⟩
          · have := length_putK kvs (Sum.inr o.1) (V.str (mkS (overP rs (cl o.1))))
            omega
          · rw [valV_put] at e
            split at e
            · rename_i hxe
              cases hxe; cases e; rfl
            · exact hks x v e
          · rw [valV_put]
            split
            · rfl
            · rename_i hne
              rcases (show m < i ∨ m = i by omega) with h | h
              · exact hmt m o' h ho'
              · subst h; rw [ho] at ho'; cases ho'; exact absurd rfl hne
        · repeat walk_at "W"
          refine ⟨_, _, rfl, k2, kvs, hk, by omega, hks, fun m o' hm ho' => ?_⟩
          rcases (show m < i ∨ m = i by omega) with h | h
          · exact hmt m o' h ho'
          · subst h; rw [ho] at ho'; cases ho'; exact e1
      · rintro σ1 G2 ⟨x3, x4, rfl, k2, kvs, hk, hkl, hks, hmt⟩
        rw [List.length_map] at hmt hkl
        have hA5 := k2 _ _ hAO hA4
        repeat walk_at "W"
        refine ⟨⟨_, SqL.of hA5⟩, fun D hD => ?_⟩
        have hDA : D ≠ A := fun e => by rw [e, hA5] at hD; cases hD
        have hDO : D ≠ O := fun e => by rw [e, hk] at hD; cases hD
        refine Wp.lcIt (walk_list (xs := os.map fun o => V.str o.1)) (fun i G3 => Same G2 G3 ∧ G3 D = some (.lst ((os.take i).map fun o => V.str (mkS (overP rs (cl o.1)))))) ⟨Wp.same_upd hD, upd_same⟩ (fun i G3 _ h => SqL.of (h.1 _ _ hA5)) ?_ ?_
        · rintro i x G3 G3' hi ⟨s3', hD3⟩ ⟨eG, hx⟩
          rw [eG]
          rw [List.length_map] at hi
          rw [List.getElem?_map] at hx
          obtain ⟨o, ho, rfl⟩ := Option.map_eq_some_iff.mp hx
          obtain ⟨v, hv⟩ := Option.isSome_iff_exists.mp (hmt i o hi ho)
          obtain rfl := hks _ _ hv
          repeat walk_at "W"
          refine Wp.dK_get (s3' _ _ hk) hv ?_
          repeat walk_at "W"
          refine ⟨_, hD3, by rw [List.length_map, List.length_take]; omega, fun b u e => ?_, ?_⟩
          · rw [upd_ne (ne_of_none e hD)]; exact s3' _ _ e
          · rw [upd_same, List.take_add_one, ho, List.map_append]; rfl
        · rintro G3 ⟨s3', hD3⟩
          rw [List.length_map, List.take_length] at hD3
          repeat walk_at "W"
          refine Wp.tupL (SqL.of hD3) fun t6 ht6 => ?_
          have u6 := Wp.same_upd (o := .tup (os.map fun o => V.str (mkS (overP rs (cl o.1))))) ht6
          have v6 := upd_same (H := G3) (a := t6) (o := .tup (os.map fun o => V.str (mkS (overP rs (cl o.1)))))
          generalize upd G3 t6 (.tup (os.map fun o => V.str (mkS (overP rs (cl o.1))))) = G6 at u6 v6 ⊢
          have s6 : Same H G6 := (((s1.trans s2).trans s3).trans (kp k2)).trans (s3'.trans u6)
          repeat walk_at "W"
          intro x dx hx hdx hne
          have s7 : Same G6 (upd (upd G6 dx (.own x)) x (.ins X dx [])) := fun b o e => by rw [upd_ne (ne_of_none e hx), upd_ne (ne_of_none e hdx)]; exact e
          have vx := upd_same (H := upd G6 dx (.own x)) (a := x) (o := .ins X dx [])
          generalize upd (upd G6 dx (.own x)) x (.ins X dx []) = G7 at s7 vx ⊢
          refine ⟨x, dx, .bl true, .ref t6, .non, .non, rfl, vx, fun H8 k8 h8 => ⟨rfl, ?_⟩⟩
          have s8 : Same G6 H8 := fun b o e => k8 b o (ne_of_none e hx) (s7 _ _ e)
          exact q H8 x dx t6 os (s6.trans s8) (s6.free hx) h8 (s8 _ _ v6) hso
end
end K09
set_option Elab.async false
set_option linter.all false
set_option maxRecDepth 100000
set_option maxHeartbeats 8000000
namespace K09
open PySem PySem.Spec PyProof.Rows L2 Bk
open Cf (Step Star)
open Wp (Keep wo_lt wo_le wo_gt wo_ge wo_eq wo_ne wo_in wo_nin wo_add wo_mul op_shlB ws_any wc_int wc_isi u65)
abbrev s__law_all_ends : Stmt := topS 120
abbrev N__law_all_ends : List Str := ["_law_signs_here", "_law_rules", "_law_size", "_law_told", "_law_text", "_law_found", "_law_left", "_law_right", "_law_place", "_law_end"]
theorem sc__law_all_ends : FnScope N__law_all_ends ["_law_signs_here", "_law_rules", "_law_size"] (defScope s__law_all_ends) := ⟨rfl, rfl, rfl, by decide +kernel, rfl, by decide +kernel, by decide +kernel⟩
local macro_rules | `(tactic| walk_at "W") => `(tactic| first
  | (with_reducible first
    | refine Wp.seq ?_ | refine Wp.asg ?_ | refine Wp.ret ?_ | refine Wp.retN ?_ | refine Wp.drop ?_ | refine Wp.nxt ?_ | refine Wp.ifs ?_ | refine Wp.gname ?_
    | refine Wp.op ?_ | refine Wp.un ?_ | refine Wp.tst ?_ | refine Wp.tb' ?_ | refine Wp.tnot ?_ | refine Wp.tand ?_ | refine Wp.tor ?_ | refine Wp.tandV ?_ | refine Wp.torV ?_ | refine Wp.tnotV ?_ | refine Wp.tif ?_ | refine Wp.tchain ?_
    | refine Wp.cb ?_ | refine Wp.call ?_ | refine Wp.cons ?_ | refine Wp.nil ?_ | refine Wp.gsub ?_ | refine Wp.cst ?_ | refine Wp.i0 ?_ | refine Wp.int1 ?_ | refine Wp.eb ?_ | refine Wp.ei ?_
    | refine Wp.gnil ?_ | refine Wp.gcons ?_ | refine Wp.mko ?_ | refine Wp.bm ?_ | refine Wp.ienum ?_ | refine Wp.tru ?_ | refine Wp.u1 ?_ | refine Wp.for_ ?_ | refine Wp.lc ?_ | refine Wp.istr ?_ | refine Wp.ilist ?_ | refine Wp.itup ?_ | refine Wp.irng1 ?_ | refine Wp.irng2 ?_ | refine Wp.yes ?_ | refine Wp.es ?_ | refine Wp.er ?_ | refine Wp.sl ?_ | refine Wp.nopart ?_ | refine Wp.part ?_ | refine Wp.lst ?_ | refine Wp.tup ?_
    | refine Wp.din ?_ | refine Wp.dnotin ?_ | refine Wp.dget ?_ | refine Wp.dget2 ?_ | refine Wp.dput ?_ | refine Wp.dnewK ?_ | refine Wp.dnewT ?_ | refine Wp.bm0 ?_ | refine Wp.m1 ?_ | refine Wp.exs ?_ | refine Wp.is0 ?_ | refine Wp.isnot0 ?_ | refine Wp.fld ?_ | refine Wp.sfld ?_
    | refine Wp.par ?_ | refine Wp.parV ?_ | refine Wp.brk ?_ | refine Wp.aug ?_ | refine Wp.ipaI ?_ | refine Wp.ipsI ?_ | refine Bk.ienumS ?_ | refine Wp.make_ ?_ | refine Wp.itnn ?_ | refine Wp.ltI ?_ | refine Wp.leI ?_ | refine Wp.leS ?_ | refine Wp.inSg ?_ | refine Wp.gtI ?_ | refine Wp.geI ?_ | refine Wp.eqI ?_ | refine Wp.neI ?_ | refine Wp.addI ?_ | refine Wp.ltS ?_ | refine Wp.eqS ?_ | refine Wp.neS ?_
    | refine Bk.ckw ?_ | refine Bk.callS ?_ | refine Bk.clAs ?_ | refine Bk.notL ?_ | refine Bk.revT ?_)
  | ((with_reducible refine' Wp.var ?hv ?_); (case hv => exact rfl))
  | ((with_reducible refine' Wp.ixl ?hs ?he ?_); (case hs => first | exact SqL.of upd_same | exact SqL.of (by assumption) | assumption); (case he => exact rfl))
  | ((with_reducible refine' Wp.setl ?hs ?he ?_); (case hs => first | exact upd_same | assumption); (case he => exact rfl))
  | ((with_reducible refine' Wp.modP ?hs ?_); (case hs => first | decide | omega))
  | ((with_reducible refine' Wp.divN ?hs ?ht ?_); (case hs => first | decide | omega); (case ht => first | decide | omega))
  | ((with_reducible refine' Wp.mulM ?hs ?ht ?_); (case hs => decide); (case ht => decide))
  | ((with_reducible refine' Wp.mulL ?hs ?_); (case hs => omega))
  | ((with_reducible refine' Wp.mulR ?hs ?_); (case hs => omega))
  | ((with_reducible refine' Wp.powS ?hs ?_); (case hs => decide))
  | ((with_reducible refine' Wp.shr ?hs ?_); (case hs => decide))
  | ((with_reducible refine' Wp.szl ?hs ?_); (case hs => first | decide | (simp; done)))
  | ((with_reducible refine' Wp.lenL ?hs ?_); (case hs => first | exact SqL.of upd_same | exact SqL.of (by assumption) | assumption))
  | ((with_reducible refine' Wp.lenT ?hs ?_); (case hs => first | exact SqT.of upd_same | exact SqT.of (by assumption) | assumption))
  | ((with_reducible refine' Wp.iteC ?hs ?_); (case hs => exact rfl)) | ((with_reducible refine' Wp.iteD ?hs ?_); (case hs => exact Bool.false_ne_true))
  | ((with_reducible refine' Wp.wp ?hs ?_); (case hs => rfl))
  | (with_reducible first | refine Wp.abs ?_ | refine Wp.max2 ?_ | refine Wp.min2 ?_)
  | ((with_reducible refine' Wp.sll ?hs ?_); (case hs => first | exact SqL.of upd_same | exact SqL.of (by assumption) | assumption)))
local macro_rules | `(tactic| walk_at "KQ") => `(tactic| first
  | exact Wp.kq "int" rfl (by decide +kernel) | exact Wp.kq "bool" rfl (by decide +kernel) | exact Wp.kq "str" rfl (by decide +kernel) | exact Wp.kq "list" rfl (by decide +kernel)
  | exact Wp.kq "tuple" rfl (by decide +kernel) | exact Wp.kq "NoneType" rfl (by decide +kernel) | exact Wp.kq "dict" rfl (by decide +kernel))

/-- all ends of a text, ascending -/
structure EndL (rs : List (Str × Str)) (u : List Nat) (es : List (List Nat)) : Prop where
  srt : es.Pairwise fun x y => txLe x y = true
  nd : es.Nodup
  mem : ∀ v, v ∈ es ↔ Star (RR rs) u v ∧ Irr rs v
/-- texts that ascend, none of them twice -/
def strictB : List (List Nat) → Bool
  | x :: y :: r => (txLe x y && !decide (x = y)) && strictB (y :: r)
  | _ => true
theorem strictB_ok : ∀ {l : List (List Nat)}, strictB l = true → l.Pairwise fun x y => txLe x y = true ∧ x ≠ y
  | [], _ => .nil
  | [_], _ => List.pairwise_singleton _ _
  | x :: y :: r, h => by
    have h' : ((txLe x y && !decide (x = y)) && strictB (y :: r)) = true := h
    rw [Bool.and_eq_true, Bool.and_eq_true] at h'
    obtain ⟨⟨h1, h2⟩, h3⟩ := h'
    have ne : x ≠ y := fun z => by rw [decide_eq_true z] at h2; cases h2
    have ih := strictB_ok h3
    refine List.pairwise_cons.mpr ⟨fun z hz => ?_, ih⟩
    rcases List.mem_cons.mp hz with e | e
    · rw [e]; exact ⟨h1, ne⟩
    · have h4 := (List.pairwise_cons.mp ih).1 z e
      exact ⟨txLe_trans _ _ _ h1 h4.1, fun q => ne (txLe_anti h1 (by rw [q]; exact h4.1))⟩
theorem up_strict5 : ∀ sg ∈ menu, strictB (endsUp [] (cl sg) 5) = true := by decide +kernel
theorem up_nodup5 (sg : Str) (hm : sg ∈ menu) : (endsUp [] (cl sg) 5).Nodup := (strictB_ok (up_strict5 sg hm)).imp fun h => h.2
theorem menu_3 {sg : Str} (hm : sg ∈ menu) : 0 < sg.length ∧ sg.length ≤ 3 := by
  have h : ∀ sg ∈ menu, 0 < sg.length ∧ sg.length ≤ 3 := by decide +kernel
  exact h sg hm
theorem up_in {sg : List Nat} {n : Nat} {u : List Nat} (h : u ∈ endsUp [] sg n) : u.length ≤ n ∧ ∀ c ∈ u, c ∈ sg := by
  have key : ∀ (k : Nat), ∀ t ∈ levs [] sg k, ∀ c ∈ t, c ∈ sg := by
    intro k
    induction k with
    | zero => intro t ht c hc; rw [List.mem_singleton.mp ht] at hc; cases hc
    | succ k ih =>
      intro t ht c hc
      obtain ⟨u, hu, h2⟩ := List.mem_flatMap.mp (show t ∈ longer [] sg (levs [] sg k) from ht)
      obtain ⟨d, hd, rfl⟩ := List.mem_map.mp (List.mem_filter.mp h2).1
      rcases List.mem_append.mp hc with z | z
      · exact ih u hu c z
      · rw [List.mem_singleton.mp z]; exact hd
  obtain ⟨k, hk, hk2⟩ := List.mem_flatMap.mp h
  have := List.mem_range.mp hk
  exact ⟨by rw [levs_size k u hk2]; omega, key k u hk2⟩
/-- a shorter text stands ahead -/
theorem up_ahead {sg : Str} (hm : sg ∈ menu) {u v : List Nat} {i : Nat} (hu : (endsUp [] (cl sg) 5)[i]? = some u) (hv : v ∈ endsUp [] (cl sg) 5) (hl : v.length < u.length) : ∃ j, j < i ∧ (endsUp [] (cl sg) 5)[j]? = some v := by
  have hs := (strictB_ok (up_strict5 sg hm)).imp (S := fun x y => txLe x y = true) fun h => h.1
  obtain ⟨j, hj, ej⟩ := List.getElem_of_mem hv
  obtain ⟨hi, ei⟩ := List.getElem?_eq_some_iff.mp hu
  refine ⟨j, ?_, by rw [List.getElem?_eq_getElem hj, ej]⟩
  refine Classical.byContradiction fun z => ?_
  by_cases e : i = j
  · subst e
    rw [ei] at ej
    rw [ej] at hl; omega
  · have := List.pairwise_iff_getElem.mp hs i j hi hj (by omega)
    rw [ei, ej] at this
    rcases txLe_iff.mp this with h | ⟨h, _⟩ <;> omega
/-- the ends of the texts so far, in a dict -/
structure DictE (rs : List (Str × Str)) (H : Hp) (kvs : List (Key × V)) (us : List (List Nat)) : Prop where
  len : kvs.length = us.length
  at_ : ∀ (i : Nat) (u : List Nat), us[i]? = some u → ∃ L es, kvs[i]? = some (Sum.inr (mkS u), V.ref L) ∧ valV kvs (Sum.inr (mkS u)) = some (.ref L) ∧ H L = some (.lst (tx es)) ∧ EndL rs u es
theorem fit_step {rs : List (Str × Str)} {u v : List Nat} (h : Step (RR rs) u v) : ∃ (i j : Nat) (l r : Str), rs[i]? = some (l, r) ∧ j < u.length + 1 ∧ (u.drop j).take l.length = cl l ∧ u.take j ++ cl r ++ u.drop (j + l.length) = v := by
  obtain ⟨x, l, r, y, ⟨p, hp, e2, e3⟩, e4, rfl⟩ := h
  obtain ⟨i', hi', ep⟩ := List.getElem_of_mem hp
  have hu : u = x ++ (cl p.1 ++ y) := by rw [e4, ← e2, List.append_assoc]
  have h1 : u.take x.length = x := by rw [hu, List.take_left]
  have h2 : u.drop (x.length + p.1.length) = y := by rw [hu, ← List.append_assoc, show x.length + p.1.length = (x ++ cl p.1).length by rw [List.length_append, len_cl], List.drop_left]
  exact ⟨i', x.length, p.1, p.2, by rw [List.getElem?_eq_getElem hi', ep], by rw [hu, List.length_append]; omega, by rw [hu, List.drop_left, ← len_cl, List.take_left], by rw [h1, h2, e3]⟩
theorem step_fit {rs : List (Str × Str)} {u : List Nat} {i j : Nat} {l r : Str} (h : rs[i]? = some (l, r)) (hf : (u.drop j).take l.length = cl l) : Step (RR rs) u (u.take j ++ cl r ++ u.drop (j + l.length)) := by
  refine ⟨u.take j, cl l, cl r, u.drop (j + l.length), ⟨(l, r), List.mem_of_getElem? h, rfl, rfl⟩, ?_, rfl⟩
  rw [List.append_assoc, ← hf, ← List.drop_drop, List.take_append_drop, List.take_append_drop]
abbrev txD (us : List (List Nat)) : List PyData := us.map fun u => .str (mkS u)
theorem tx_dps {K : PySem.W.Frag} {H : Hp} : ∀ {us : List (List Nat)}, DpAll K H (tx us) (txD us)
  | [] => .nil
  | _ :: _ => .cons (.str _) tx_dps
theorem str_sh {z : Str} (h : PyData.strOk z = true) : SeqAt.shaped (.str z) = true ∧ (PyData.str z).depth ≤ 60 := by
  unfold SeqAt.shaped
  simp [PyData.canLay0, PyData.depth, h]
theorem txD_any {us : List (List Nat)} {v : List Nat} : ((txD us).any fun y => PyData.eqv y (.str (mkS v))) = decide (v ∈ us) := by
  rw [Bool.eq_iff_iff, List.any_eq_true, decide_eq_true_iff]
  constructor
  · rintro ⟨d, hd, h⟩
    obtain ⟨u, hu, rfl⟩ := List.mem_map.mp hd
    have e : mkS u = mkS v := by simpa [PyData.eqv] using h
    rwa [← mk_iff.mp e]
  · intro h
    exact ⟨_, List.mem_map.mpr ⟨v, h, rfl⟩, by simp [PyData.eqv]⟩
section
variable {P : Program} {w : World} {K : PySem.W.Frag} {mg : Str → Option Value} {base : Heap}
def spAllE : Sp := fun vs H Q _ => ∃ sg t bs rs, vs = [.str sg, .ref t, .int 5] ∧ sg ∈ menu ∧ H t = some (.tup (bs.map V.ref)) ∧ RulesAt H bs rs ∧ rs.length ≤ 64 ∧ Good rs ∧ (∀ p ∈ rs, ∀ c ∈ cl p.2, c ∈ cl sg) ∧
  ∀ H' D kvs, Same H H' → H' D = some (.dK kvs) → DictE rs H' kvs (endsUp [] (cl sg) 5) → Q (.ref D) H'
theorem ok_alle (B : Wp.Blt mg) {f fT fK : Addr} {fd fdT fdK : FuncData} (F : Fun K "_law_all_ends" "_law_all_ends" s__law_all_ends f fd)
    (D__law_texts : Wp.Dh K mg "_law_texts" fT fdT ["_law_signs_here", "_law_size"]) (G__law_texts : FnOk P w K mg base CX0 2 fT fdT ["_law_signs_here", "_law_size"] spLTexts)
    (D__law_key : Wp.Dh K mg "_law_key" fK fdK ["_law_text"]) (G__law_key : FnOk P w K mg base CX0 1 fK fdK ["_law_text"] spLKey) : FnOk P w K mg base CX0 4 f fd ["_law_signs_here", "_law_rules", "_law_size"] spAllE := by
  refine F.ok sc__law_all_ends (fun vs H Q E h => ?_) (fun cdv A outer s H vs Q E hr h => ?_)
  · obtain ⟨sg, t, bs, rs, rfl, _⟩ := h
    rfl
  · obtain ⟨sg, t, bs, rs, rfl, hmn, ht, hb, hl, hg, hrs, q⟩ := h
    refine ⟨_, (pss_cons (ps_set (i := 3) sc__law_all_ends.nd rfl (by first | exact .inl rfl | exact .inr rfl) pe_dnewK)
  (pss_cons (ps_for PassesOwn.never rfl (Wp.wi_list (K := K) (pe_call G__law_texts (hr.mono (by decide)) (by rfl) D__law_texts.g D__law_texts.k D__law_texts.b .nil pass0 (pa_cons (pv 0) (pa_cons (pv 2) pa_nil)))) (pg_name (i := 4) sc__law_all_ends.nd rfl (by first | exact .inl rfl | exact .inr rfl)) (pss_cons (ps_set (i := 5) sc__law_all_ends.nd rfl (by first | exact .inl rfl | exact .inr rfl) (pe_lst pa_nil))
  (pss_cons (ps_for PassesOwn.never rfl (Wp.wi_tup (K := K) (pv 1)) (Wp.wg_tup (K := K) (n := 2) rfl (pgs_cons (pg_name (i := 6) sc__law_all_ends.nd rfl (by first | exact .inl rfl | exact .inr rfl)) (pgs_cons (pg_name (i := 7) sc__law_all_ends.nd rfl (by first | exact .inl rfl | exact .inr rfl)) pgs_nil))) (pss_one (ps_for PassesOwn.never rfl (pi_range1 (by rfl) B.range (pa_cons (pe_callB (Wp.wc_len (K := K)) (by rfl) B.len (by decide +kernel) (pa_cons (pv 4) pa_nil)) pa_nil)) (pg_name (i := 8) sc__law_all_ends.nd rfl (by first | exact .inl rfl | exact .inr rfl)) (pss_one (ps_if (pt_cmpR (wo_eq (K := K) hr.units) (pe_slice (ws_any (K := K)) (pv 4) (po_some (pv 8)) (po_some (pe_op (wo_add (K := K)) (pv 8) (pe_callB (Wp.wc_len (K := K)) (by rfl) B.len (by decide +kernel) (pa_cons (pv 6) pa_nil))))) (pv 6) (nomark _)) (pss_one (ps_for PassesOwn.never rfl (Wp.wi_list (K := K) (pe_dget (hu_of hr) (pv 3) (pe_op (wo_add (K := K)) (pe_op (wo_add (K := K)) (pe_slice (ws_any (K := K)) (pv 4) po_none (po_some (pv 8))) (pv 7)) (pe_slice (ws_any (K := K)) (pv 4) (po_some (pe_op (wo_add (K := K)) (pv 8) (pe_callB (Wp.wc_len (K := K)) (by rfl) B.len (by decide +kernel) (pa_cons (pv 6) pa_nil)))) po_none)) (fun _ _ => rfl))) (pg_name (i := 9) sc__law_all_ends.nd rfl (by first | exact .inl rfl | exact .inr rfl)) (pss_one (ps_if (pt_cmpR (wo_nin (K := K) (u65 hr)) (pv 9) (pv 5) (by rfl)) (pss_one (ps_expr (Wp.wbm (K := K) (pe_bm PySem.F.plainAttrs_list PySem.F.slot_list_append PySem.F.type_list_append mt_append (pv 5) (pa_cons (pv 9) pa_nil))))) pss_nil)))) pss_nil)))))
  (pss_one (ps_dput (hu_of hr) (pv 3) (pv 4) (pe_ifExp (Wp.wt_truth (K := K) (pv 5) (by intro _; rfl)) (pe_callBK (Bk.wc_sortK (K := K) G__law_key D__law_key.b (hr.mono (by decide))) (by rfl) B.sorted (by decide +kernel) (pa_cons (pv 5) pa_nil) (pk_cons (pe_glob (v := .ref _) (by rfl) D__law_key.g rfl) pk_nil)) (pe_lst (pa_cons (pv 4) pa_nil))) rfl)))))
  (pss_one (ps_ret (pv 3))))), ?_⟩
    refine Wp.st (σ' := [some (.str sg), some (.ref t), some (.int 5), none, none, none, none, none, none, none]) rfl ?_
    have hbig : (1000000 : Nat) < sizeLine := by decide
    have hbl := hb.len
    obtain ⟨hsl0, hsl3⟩ := menu_3 hmn
    have hel := @endsUp_len [] (cl sg) (by rw [len_cl]; omega) 5 (by omega)
    repeat walk_at "W"
    intro D hD
    have sD := Wp.same_upd (o := .dK []) hD
    have vD := upd_same (H := H) (a := D) (o := .dK [])
    generalize upd H D (.dK []) = H1 at sD vD ⊢
    repeat walk_at "W"
    refine ⟨sg, 5, rfl, hsl3, by omega, fun H2 L s2 hL0 hT => ?_⟩
    have hD2 := s2 _ _ vD
    have hLD : L ≠ D := fun e => by rw [e, vD] at hL0; cases hL0
    have hfree : ∀ {G : Hp}, Keep D H2 G → Same H G := fun k b o e => k b o (ne_of_none e hD) (s2 _ _ (sD _ _ e))
    refine ⟨L, rfl, ⟨_, SqL.of hT⟩, Wp.forIt (walk_list (xs := tx (endsUp [] (cl sg) 5))) (fun i σ1 G => ∃ x4 x5 x6 x7 x8 x9 kvs, σ1 = [some (.str sg), some (.ref t), some (.int 5), some (.ref D), x4, x5, x6, x7, x8, x9] ∧ Keep D H2 G ∧ G D = some (.dK kvs) ∧ DictE rs G kvs ((endsUp [] (cl sg) 5).take i))
      ⟨_, _, _, _, _, _, [], rfl, Keep.refl _ _, hD2, ⟨rfl, fun i u h => by simp at h⟩⟩ (fun i σ1 G _ ⟨_, _, _, _, _, _, _, _, k, _⟩ => SqL.of (k _ _ hLD hT)) ?_ ?_⟩
    · rintro i x σ1 G G' hi ⟨x4, x5, x6, x7, x8, x9, kvs, rfl, k3, hD3, hE⟩ ⟨rfl, hx⟩
      rw [List.getElem?_map] at hx
      obtain ⟨u, hu, rfl⟩ := Option.map_eq_some_iff.mp hx
      obtain ⟨hu5, huo⟩ := up_in (List.mem_of_getElem? hu)
      have hil := (List.getElem?_eq_some_iff.mp hu).1
      have hum := len_mk u
      repeat walk_at "W"
      intro F hF
      have uF := Wp.same_upd (o := .lst []) hF
      have vF := upd_same (H := G') (a := F) (o := .lst [])
      generalize upd G' F (.lst []) = G1 at uF vF ⊢
      have hDF : D ≠ F := fun e => by rw [← e, hD3] at hF; cases hF
      have hD4 := uF _ _ hD3
      have kF : ∀ {G2 : Hp}, Keep F G1 G2 → Same G' G2 := fun k b o e => k b o (ne_of_none e hF) (uF _ _ e)
      have sH : ∀ {G2 : Hp}, Keep F G1 G2 → Same H G2 := fun k b o e => kF k b o (hfree k3 b o e)
      refine Wp.gname ?_
      let Got : Nat → Nat → List Nat → Prop := fun i j v => ∃ (i' j' : Nat) (l r : Str), (i' < i ∨ (i' = i ∧ j' < j)) ∧ rs[i']? = some (l, r) ∧ (u.drop j').take l.length = cl l ∧ j' < u.length ∧ Star (RR rs) (u.take j' ++ cl r ++ u.drop (j' + l.length)) v ∧ Irr rs v
      have got_in : ∀ {i j v}, Got i j v → v ∈ endsUp [] (cl sg) 5 := fun {i j v} ⟨i', j', l, r, _, h1, h2, _, h3, _⟩ => by
        have st := step_fit h1 h2
        have s2 : Star (RR rs) u v := .head st h3
        exact all_up (star_over hrs s2 huo) (by have := s2.le (rr_short hg); omega)
      let Pv : Nat → Nat → Hp → Prop := fun i j G2 => ∃ fs : List (List Nat), Keep F G1 G2 ∧ G2 F = some (.lst (tx fs)) ∧ fs.Nodup ∧ ∀ v, v ∈ fs ↔ Got i j v
      have hfl : ∀ {i j} {fs : List (List Nat)}, fs.Nodup → (∀ v, v ∈ fs ↔ Got i j v) → fs.length ≤ 1458 := fun nd hm => Nat.le_trans (nodup_le nd fun v hv => got_in ((hm v).mp hv)) hel
      with_reducible refine Wp.cutQ (fun σ' H' => ∃ x6 x7 x8 x9, σ' = [some (.str sg), some (.ref t), some (.int 5), some (.ref D), some (.str (mkS u)), some (.ref F), x6, x7, x8, x9] ∧ Pv rs.length 0 H') (fun nx hn => ?_) ?_
      · repeat walk_at "W"
        have ht1 := sH (Keep.refl F G1) _ _ ht
        refine ⟨⟨_, SqT.of ht1⟩, Wp.forIt (walk_tup (xs := bs.map V.ref)) (fun k σ1 G2 => ∃ x6 x7 x8 x9, σ1 = [some (.str sg), some (.ref t), some (.int 5), some (.ref D), some (.str (mkS u)), some (.ref F), x6, x7, x8, x9] ∧ Pv k 0 G2) ⟨_, _, _, _, rfl, [], Keep.refl _ _, vF, .nil, fun v => ⟨(fun h => nomatch h), fun ⟨i', j', l, r, h, _⟩ => by omega⟩⟩ (fun k σ1 G2 _ ⟨_, _, _, _, _, _, kk, _⟩ => SqT.of (sH kk _ _ ht)) ?_ ?_⟩
        · rintro k x σ1 G2 G2' hk ⟨y6, y7, y8, y9, rfl, hP⟩ ⟨rfl, hx⟩
          obtain ⟨c, ⟨l, r⟩, rfl, hlr, hbt⟩ := rulesAt_take hb hx
          replace hbt : H c = some (.tup [.str l, .str r]) := hbt
          obtain ⟨g1, g2, g3⟩ := hg _ (List.mem_of_getElem? hlr)
          simp only at g1 g2 g3
          have hrl := len_cl r
          have kP := hP.choose_spec.1
          refine Wp.gt (SqT.of (sH kP _ _ hbt)) rfl ?_
          repeat walk_at "W"
          refine Wp.lenS (Nat.le_of_lt (small1000 (by omega))) ?_
          repeat walk_at "W"
          refine ⟨_, rfl, by omega, by omega, ?_⟩
          refine Wp.forIt walk_range (fun j σ1 G3 => ∃ x8 x9, σ1 = [some (.str sg), some (.ref t), some (.int 5), some (.ref D), some (.str (mkS u)), some (.ref F), some (.str l), some (.str r), x8, x9] ∧ Pv k j G3) ⟨_, _, rfl, hP⟩ (fun _ _ _ _ _ => trivial) ?_ ?_
          · rintro j x σ1 G3 G3' hj ⟨y8, y9, rfl, fs, k5, hF5, hnd, hmem⟩ ⟨rfl, hy⟩
            obtain rfl : x = .int (j : Nat) := by rw [hy]; exact congrArg V.int (by omega)
            have hj2 : j < u.length := by omega
            generalize hv : u.take j ++ cl r ++ u.drop (j + l.length) = v
            have gotN : ∀ w, Got k (j + 1) w ↔ Got k j w ∨ ((u.drop j).take l.length = cl l ∧ Star (RR rs) v w ∧ Irr rs w) := fun w => by
              constructor
              · rintro ⟨i', j', l', r', h1, h2, h3, h4, h5, h6⟩
                by_cases e : i' = k ∧ j' = j
                · obtain ⟨rfl, rfl⟩ := e
                  rw [hlr] at h2; cases h2
                  exact .inr ⟨h3, by rw [← hv]; exact h5, h6⟩
                · exact .inl ⟨i', j', l', r', by omega, h2, h3, h4, h5, h6⟩
              · rintro (⟨i', j', l', r', h1, h⟩ | ⟨h1, h2, h3⟩)
                · exact ⟨i', j', l', r', by omega, h⟩
                · exact ⟨k, j, l, r, by omega, hlr, h1, hj2, by rw [hv]; exact h2, h3⟩
            refine Wp.gname ?_
            refine Wp.ifs ?_
            refine Wp.cutT (fun b H' => H' = G3' ∧ (b = true ↔ (u.drop j).take l.length = cl l)) (fun R hRR => ?_) ?_
            · repeat walk_at "W"
              refine Wp.lenS (Nat.le_of_lt (small1000 (by omega))) ?_
              repeat walk_at "W"
              refine sls (by omega) ?_
              rw [cutS_mid (i := ((j : Nat) : Int)) (j := ((j : Nat) : Int) + (l.length : Int)) j (j + l.length) rfl (by omega) (by omega), show j + l.length - j = l.length by omega, cl_mk]
              repeat walk_at "W"
              refine hRR _ _ ⟨rfl, ?_⟩
              rw [decide_eq_true_iff]
              exact ⟨fun e2 => by rw [← e2, cl_mk, e2], fun e2 => by rw [e2, mk_cl]⟩
            · rintro b G4 ⟨rfl, hb1⟩
              cases b with
              | false =>
                refine Wp.iteD Bool.false_ne_true ?_
                repeat walk_at "W"
                refine ⟨_, _, rfl, fs, k5, hF5, hnd, fun w => ?_⟩
                rw [hmem, gotN]
                exact ⟨.inl, fun z => z.resolve_right fun ⟨z, _⟩ => absurd (hb1.mpr z) Bool.false_ne_true⟩
              | true =>
                have e2 := hb1.mp rfl
                have st := step_fit hlr e2
                rw [hv] at st
                have hvl := st.lt (rr_short hg)
                have hvin : v ∈ endsUp [] (cl sg) 5 := all_up (star_over hrs (.one st) huo) (by omega)
                obtain ⟨m, hmi, hme⟩ := up_ahead hmn hu hvin hvl
                obtain ⟨L', es, f1, f4, f2, f3⟩ := hE.at_ m v (by rw [List.getElem?_take, if_pos hmi]; exact hme)
                have hD5 := kF k5 _ _ hD3
                have hL5 := kF k5 _ _ f2
                have hLF : L' ≠ F := fun e => by rw [e, hF] at f2; cases f2
                have hesl : es.length ≤ 1458 := Nat.le_trans (nodup_le f3.nd fun w hw => all_up (star_over hrs (Star.head st ((f3.mem w).mp hw).1) huo) (by have := ((f3.mem w).mp hw).1.le (rr_short hg); omega)) hel
                have hstr : ∀ w : List Nat, (∀ c ∈ w, c ∈ cl sg) → PyData.strOk (mkS w) = true := fun w hw => str_shaped hmn fun c hc => hw c (by rw [cl_mk] at hc; exact hc)
                refine Wp.iteC rfl ?_
                repeat walk_at "W"
                refine sls (by omega) ?_
                rw [cutS_hi j rfl, cl_mk]
                repeat walk_at "W"
                refine Wp.addS (Nat.le_of_lt (small1000 (by rw [len_mk, List.length_take]; omega))) ?_
                repeat walk_at "W"
                refine Wp.lenS (Nat.le_of_lt (small1000 (by omega))) ?_
                repeat walk_at "W"
                refine sls (by omega) ?_
                rw [cutS_lo (i := ((j : Nat) : Int) + (l.length : Int)) (j + l.length) (by omega), cl_mk]
                refine Wp.addS (Nat.le_of_lt (small1000 (by rw [len_app, len_mk, len_mk, List.length_take, List.length_drop]; omega))) ?_
                have hev : mkS (u.take j) ++ r ++ mkS (u.drop (j + l.length)) = mkS v := ext (by rw [cl_app, cl_app, cl_mk, cl_mk, cl_mk, hv])
                rw [hev]
                repeat walk_at "W"
                refine Wp.dK_get hD5 f4 ?_
                refine ⟨L', rfl, ⟨_, SqL.of hL5⟩, Wp.forIt (walk_list (xs := tx es)) (fun n σ1 G5 => ∃ x9 fs', σ1 = [some (.str sg), some (.ref t), some (.int 5), some (.ref D), some (.str (mkS u)), some (.ref F), some (.str l), some (.str r), some (.int (j : Nat)), x9] ∧ Keep F G1 G5 ∧ G5 F = some (.lst (tx fs')) ∧ fs'.Nodup ∧ ∀ w, w ∈ fs' ↔ w ∈ fs ∨ w ∈ es.take n)
                  ⟨_, fs, rfl, k5, hF5, hnd, fun w => by simp⟩ (fun n σ1 G5 _ ⟨_, _, _, k, _⟩ => SqL.of (kF k _ _ f2)) ?_ ?_⟩
                · rintro n x σ1 G5 G5' hn5 ⟨y9, fs', rfl, k6, hF6, hnd6, hm6⟩ ⟨rfl, hx⟩
                  rw [List.getElem?_map] at hx
                  obtain ⟨w, hw, rfl⟩ := Option.map_eq_some_iff.mp hx
                  have hwe := List.mem_of_getElem? hw
                  have hwo : ∀ c ∈ w, c ∈ cl sg := star_over hrs (Star.head st ((f3.mem w).mp hwe).1) huo
                  have hfo : ∀ y ∈ fs', ∀ c ∈ y, c ∈ cl sg := fun y hy => by
                    rcases (hm6 y).mp hy with z | z
                    · exact (up_in (got_in ((hmem y).mp z))).2
                    · exact star_over hrs (Star.head st ((f3.mem y).mp (List.mem_of_mem_take z)).1) huo
                  have hf6l : fs'.length ≤ 1458 := Nat.le_trans (nodup_le hnd6 fun y hy => by
                    rcases (hm6 y).mp hy with z | z
                    · exact got_in ((hmem y).mp z)
                    · have h9 := ((f3.mem y).mp (List.mem_of_mem_take z)).1
                      exact all_up (hfo y hy) (by have := h9.le (rr_short hg); omega)) hel
                  have htk : es.take (n + 1) = es.take n ++ [w] := by rw [List.take_add_one, hw]; rfl
                  repeat walk_at "W"
                  refine .inr ⟨.str (mkS w), txD fs', .str _, .lst (SqL.of hF6) tx_dps, (str_sh (hstr w hwo)).1, shaped_list (fun d hd => by obtain ⟨y, hy, rfl⟩ := List.mem_map.mp hd; exact str_sh (hstr y (hfo y hy))), ?_⟩
                  rw [txD_any]
                  repeat walk_at "W"
                  refine Wp.itn (fun e3 => ?_) (fun e3 => ?_)
                  · repeat walk_at "W"
                    refine Wp.tyl hF6 ?_
                    repeat walk_at "W"
                    refine Wp.app hF6 (by rw [List.length_map]; omega) ?_
                    repeat walk_at "W"
                    refine ⟨_, fs' ++ [w], rfl, k6.trans (Keep.upd F _ _), by rw [upd_same, tx_app]; rfl, ?_, fun y => ?_⟩
                    · refine List.nodup_append.mpr ⟨hnd6, by simp, fun a ha b hb e => ?_⟩
                      rw [e, List.mem_singleton.mp hb] at ha
                      exact e3 ha
                    · rw [List.mem_append, hm6, htk, List.mem_append, or_assoc]
                  · repeat walk_at "W"
                    refine ⟨_, fs', rfl, k6, hF6, hnd6, fun y => ?_⟩
                    rw [hm6, htk, List.mem_append]
                    constructor
                    · rintro (z | z)
                      · exact .inl z
                      · exact .inr (.inl z)
                    · rintro (z | z | z)
                      · exact .inl z
                      · exact .inr z
                      · rw [List.mem_singleton.mp z]; exact (hm6 w).mp e3
                · rintro σ1 G5 ⟨y9', fs', rfl, k6, hF6, hnd6, hm6⟩
                  rw [List.length_map, List.take_length] at hm6
                  refine ⟨_, _, rfl, fs', k6, hF6, hnd6, fun w => ?_⟩
                  rw [hm6, gotN, hmem, f3.mem]
                  exact ⟨fun z => z.imp id fun z => ⟨e2, z⟩, fun z => z.imp id fun z => z.2⟩
          · rintro σ1 G3 ⟨y8, y9, rfl, fs, k5, hF5, hnd, hmem⟩
            refine ⟨_, _, _, _, rfl, fs, k5, hF5, hnd, fun w => ?_⟩
            rw [hmem]
            constructor
            · rintro ⟨i', j', l', r', h1, h⟩
              exact ⟨i', j', l', r', by omega, h⟩
            · rintro ⟨i', j', l', r', h1, h2, h3, h4, h5⟩
              refine ⟨i', j', l', r', ?_, h2, h3, h4, h5⟩
              by_cases e : i' = k
              · refine .inr ⟨e, ?_⟩
                rw [hum]
                show j' < ((u.length : Nat) : Int).toNat
                omega
              · exact .inl (by omega)
        · rintro σ1 G2 ⟨y6, y7, y8, y9, rfl, hP⟩
          rw [List.length_map, hbl] at hP
          exact hn _ _ ⟨_, _, _, _, rfl, hP⟩
      rintro σ' G2 ⟨y6, y7, y8, y9, rfl, fs, k5, hF5, hnd, hmem⟩
      have sG := kF k5
      have hD5 := sG _ _ hD3
      have got_iff : ∀ v, v ∈ fs ↔ ∃ w, Step (RR rs) u w ∧ Star (RR rs) w v ∧ Irr rs v := fun v => by
        rw [hmem]
        constructor
        · rintro ⟨i', j', l, r, _, h1, h2, _, h3, h4⟩
          exact ⟨_, step_fit h1 h2, h3, h4⟩
        · rintro ⟨w, h1, h2, h3⟩
          obtain ⟨i', j', l, r, e1, e2, e3, e4⟩ := fit_step h1
          have hpos := left_pos hg (List.mem_of_getElem? e1)
          have hlen := congrArg List.length e3
          rw [List.length_take, List.length_drop] at hlen
          simp only at hpos
          exact ⟨i', j', l, r, .inl (List.getElem?_eq_some_iff.mp e1).1, e1, e3, by omega, by rw [e4]; exact h2, h3⟩
      have hkey : valV kvs (Sum.inr (mkS u)) = none := by
        cases e : valV kvs (Sum.inr (mkS u)) with
        | none => rfl
        | some w =>
          exfalso
          have h1 : (kvs.any fun kv => decide (kv.1 = Sum.inr (mkS u))) = true := by rw [valV_any, e]; rfl
          obtain ⟨kv, hk, hk2⟩ := List.any_eq_true.mp h1
          obtain ⟨j, hj, ej⟩ := List.getElem_of_mem hk
          have hji : j < i := by
            have := hE.len
            rw [List.length_take] at this; omega
          have hjl : j < (endsUp [] (cl sg) 5).length := by omega
          obtain ⟨_, _, f1, _⟩ := hE.at_ j _ (by rw [List.getElem?_take, if_pos hji]; exact List.getElem?_eq_getElem hjl)
          rw [List.getElem?_eq_getElem hj, ej] at f1
          have f2 : kv.1 = Sum.inr (mkS (endsUp [] (cl sg) 5)[j]) := by rw [Option.some.inj f1]
          have f3 : kv.1 = Sum.inr (mkS u) := by simpa using hk2
          rw [f2] at f3
          have f4 := mk_iff.mp (Sum.inr.inj f3)
          have hi2 : i < (endsUp [] (cl sg) 5).length := hil
          have f5 : (endsUp [] (cl sg) 5)[i] = u := (List.getElem?_eq_some_iff.mp hu).2
          have := (List.pairwise_iff_getElem.mp (up_nodup5 sg hmn)) j i hjl hi2 hji
          exact this (f4.trans f5.symm)
      have hlk := hE.len
      rw [List.length_take] at hlk
      have fin : ∀ {G3 : Hp} {L' : Addr} {es : List (List Nat)}, Same G2 G3 → G3 L' = some (.lst (tx es)) → EndL rs u es → ∃ x4 x5 x6 x7 x8 x9 kvs', [some (.str sg), some (.ref t), some (.int 5), some (.ref D), some (.str (mkS u)), some (.ref F), y6, y7, y8, y9] = [some (.str sg), some (.ref t), some (.int 5), some (.ref D), x4, x5, x6, x7, x8, x9] ∧ Keep D H2 (upd G3 D (.dK (putK kvs (Sum.inr (mkS u)) (.ref L')))) ∧ (upd G3 D (.dK (putK kvs (Sum.inr (mkS u)) (.ref L')))) D = some (.dK kvs') ∧ DictE rs (upd G3 D (.dK (putK kvs (Sum.inr (mkS u)) (.ref L')))) kvs' ((endsUp [] (cl sg) 5).take (i + 1)) := by
        intro G3 L' es s6 hL' hEs
        have hD6 := s6 _ _ hD5
        have nD : ∀ {y : Addr} {xs : List V}, G3 y = some (.lst xs) → (upd G3 D (.dK (putK kvs (Sum.inr (mkS u)) (.ref L')))) y = some (.lst xs) := fun {y xs} e => by rw [upd_ne (ne_of e hD6 (by intro z; cases z))]; exact e
        refine ⟨_, _, _, _, _, _, _, rfl, fun b o e1 e2 => ?_, upd_same, ?_, fun j w hw => ?_⟩
        · rw [upd_ne e1]; exact s6 _ _ (sG _ _ (k3 b o e1 e2))
        · rw [putK_new hkey, List.length_append, hE.len, List.length_take, List.length_take]; simp; omega
        · rw [putK_new hkey]
          by_cases hji : j < i
          · rw [List.getElem?_take, if_pos (by omega)] at hw
            obtain ⟨L2, es2, f1, f2, f3, f4⟩ := hE.at_ j w (by rw [List.getElem?_take, if_pos hji]; exact hw)
            refine ⟨L2, es2, by rw [List.getElem?_append_left (by omega)]; exact f1, ?_, by rw [← putK_new hkey]; exact nD (s6 _ _ (sG _ _ f3)), f4⟩
            have hne : ¬ ((Sum.inr (mkS w) : Key) = Sum.inr (mkS u)) := fun z => by
              rw [Sum.inr.inj z, hkey] at f2; cases f2
            have := valV_put kvs (Sum.inr (mkS u)) (Sum.inr (mkS w)) (V.ref L')
            rw [if_neg hne, putK_new hkey] at this
            rw [this]; exact f2
          · have hj : j = i := by
              have := (List.getElem?_eq_some_iff.mp hw).1
              rw [List.length_take] at this; omega
            subst hj
            rw [List.getElem?_take, if_pos (by omega), hu] at hw
            cases hw
            refine ⟨L', es, by rw [List.getElem?_append_right (by omega), show j - kvs.length = 0 by omega]; rfl, ?_, by rw [← putK_new hkey]; exact nD hL', hEs⟩
            have := valV_put kvs (Sum.inr (mkS u)) (Sum.inr (mkS u)) (V.ref L')
            rw [if_pos rfl, putK_new hkey] at this
            exact this
      repeat walk_at "W"
      refine Wp.truL (SqL.of hF5) ?_
      cases hfs : fs with
      | nil =>
        rw [hfs] at hF5 got_iff
        have irr : Irr rs u := fun w st => by
          have := (got_iff (overP rs w)).mpr ⟨w, st, (nf_over hg).star w, (nf_over hg).stop w⟩
          cases this
        refine Wp.iteD (by simp [tx]) ?_
        repeat walk_at "W"
        intro L' hL'
        have uL := Wp.same_upd (o := .lst [.str (mkS u)]) hL'
        have vL := upd_same (H := G2) (a := L') (o := .lst [.str (mkS u)])
        generalize upd G2 L' (.lst [.str (mkS u)]) = G3 at uL vL ⊢
        repeat walk_at "W"
        refine Wp.dK_put (uL _ _ hD5) (by omega) ?_
        exact fin (es := [u]) uL vL ⟨by simp, by simp, fun v => by
          rw [List.mem_singleton]
          constructor
          · rintro rfl
            exact ⟨.refl _, irr⟩
          · rintro ⟨st, _⟩
            cases st with
            | refl => rfl
            | head s _ => exact absurd s (irr _)⟩
      | cons f0 fr =>
        rw [← hfs]
        have hf0 : f0 ∈ fs := by rw [hfs]; exact List.mem_cons_self
        have hfl4 : ∀ y ∈ fs, y.length ≤ 5 := fun y hy => (up_in (got_in ((hmem y).mp hy))).1
        have hfll := hfl hnd hmem
        refine Wp.iteC (by rw [hfs]; simp [tx]) ?_
        repeat walk_at "W"
        refine ⟨F, tx fs, tkey, rfl, rfl, SqL.of hF5, tkey_ok fs, fun v hv H5 s5 => ?_, fun H5 L' s5 hL' => ?_⟩
        · obtain ⟨y, hy, rfl⟩ := List.mem_map.mp hv
          have := hfl4 y hy
          exact ⟨mkS y, rfl, by rw [len_mk]; omega, fun T hT => ⟨Wp.same_upd hT, .tup (SqT.of upd_same) (.cons (.int _) (.cons (.str _) .nil))⟩⟩
        · rw [byKey_tx]
          have uL := Wp.same_upd (o := .lst (tx (asc fs))) hL'
          have vL := upd_same (H := H5) (a := L') (o := .lst (tx (asc fs)))
          generalize upd H5 L' (.lst (tx (asc fs))) = G3 at uL vL ⊢
          have s6 := s5.trans uL
          repeat walk_at "W"
          refine Wp.dK_put (s6 _ _ hD5) (by omega) ?_
          refine fin s6 vL ⟨asc_sorted _, (asc_perm _).nodup_iff.mpr hnd, fun v => ?_⟩
          rw [asc_mem, got_iff]
          constructor
          · rintro ⟨w, h1, h2, h3⟩
            exact ⟨.head h1 h2, h3⟩
          · rintro ⟨st, hv⟩
            cases st with
            | refl =>
              obtain ⟨w, h1, _⟩ := (got_iff f0).mp hf0
              exact absurd h1 (hv _)
            | head s t => exact ⟨_, s, t, hv⟩
    · rintro σ1 G ⟨x4, x5, x6, x7, x8, x9, kvs, rfl, k3, hD3, hE⟩
      rw [List.length_map, List.take_length] at hE
      repeat walk_at "W"
      exact q G D kvs (hfree k3) hD3 hE
end
end K09
set_option Elab.async false
set_option linter.all false
set_option maxRecDepth 100000
set_option maxHeartbeats 8000000
namespace K09
open PySem PySem.Spec PyProof.Rows L2 Bk
open Wp (Keep wo_lt wo_le wo_gt wo_ge wo_eq wo_ne wo_in wo_nin wo_add wo_mul op_shlB ws_any wc_int wc_isi u65)
abbrev s_Lot___init__ : Stmt := inClass (topS 104) 0
abbrev N_Lot___init__ : List Str := ["self", "book", "automaton"]
theorem sc_Lot___init__ : FnScope N_Lot___init__ ["self", "book", "automaton"] (defScope s_Lot___init__) := ⟨rfl, rfl, rfl, by decide +kernel, rfl, by decide +kernel, by decide +kernel⟩
abbrev s_whole : Stmt := topS 109
abbrev N_whole : List Str := ["book", "table", "accepting"]
theorem sc_whole : FnScope N_whole ["book"] (defScope s_whole) := ⟨rfl, rfl, rfl, by decide +kernel, rfl, by decide +kernel, by decide +kernel⟩
abbrev s_meaning : Stmt := topS 110
abbrev N_meaning : List Str := ["book", "text"]
theorem sc_meaning : FnScope N_meaning ["book", "text"] (defScope s_meaning) := ⟨rfl, rfl, rfl, by decide +kernel, rfl, by decide +kernel, by decide +kernel⟩
abbrev s_least_book : Stmt := topS 56
abbrev N_least_book : List Str := ["book"]
theorem sc_least_book : FnScope N_least_book ["book"] (defScope s_least_book) := ⟨rfl, rfl, rfl, by decide +kernel, rfl, by decide +kernel, by decide +kernel⟩
abbrev s_least_rules : Stmt := topS 55
abbrev N_least_rules : List Str := ["book", "rights", "left", "lefts"]
theorem sc_least_rules : FnScope N_least_rules ["book"] (defScope s_least_rules) := ⟨rfl, rfl, rfl, by decide +kernel, rfl, by decide +kernel, by decide +kernel⟩
local macro_rules | `(tactic| walk_at "W") => `(tactic| first
  | (with_reducible first
    | refine Wp.seq ?_ | refine Wp.asg ?_ | refine Wp.ret ?_ | refine Wp.retN ?_ | refine Wp.drop ?_ | refine Wp.nxt ?_ | refine Wp.ifs ?_ | refine Wp.gname ?_
    | refine Wp.op ?_ | refine Wp.un ?_ | refine Wp.tst ?_ | refine Wp.tb' ?_ | refine Wp.tnot ?_ | refine Wp.tand ?_ | refine Wp.tor ?_ | refine Wp.tandV ?_ | refine Wp.torV ?_ | refine Wp.tnotV ?_ | refine Wp.tif ?_ | refine Wp.tchain ?_
    | refine Wp.cb ?_ | refine Wp.call ?_ | refine Wp.cons ?_ | refine Wp.nil ?_ | refine Wp.gsub ?_ | refine Wp.cst ?_ | refine Wp.i0 ?_ | refine Wp.int1 ?_ | refine Wp.eb ?_ | refine Wp.ei ?_
    | refine Wp.gnil ?_ | refine Wp.gcons ?_ | refine Wp.mko ?_ | refine Wp.bm ?_ | refine Wp.ienum ?_ | refine Wp.tru ?_ | refine Wp.u1 ?_ | refine Wp.for_ ?_ | refine Wp.lc ?_ | refine Wp.istr ?_ | refine Wp.ilist ?_ | refine Wp.itup ?_ | refine Wp.irng1 ?_ | refine Wp.irng2 ?_ | refine Wp.yes ?_ | refine Wp.es ?_ | refine Wp.er ?_ | refine Wp.sl ?_ | refine Wp.nopart ?_ | refine Wp.part ?_ | refine Wp.lst ?_ | refine Wp.tup ?_
    | refine Wp.din ?_ | refine Wp.dnotin ?_ | refine Wp.dget ?_ | refine Wp.dget2 ?_ | refine Wp.dput ?_ | refine Wp.dnewK ?_ | refine Wp.dnewT ?_ | refine Wp.bm0 ?_ | refine Wp.m1 ?_ | refine Wp.exs ?_ | refine Wp.is0 ?_ | refine Wp.isnot0 ?_ | refine Wp.fld ?_ | refine Wp.sfld ?_
    | refine Wp.par ?_ | refine Wp.parV ?_ | refine Wp.brk ?_ | refine Wp.aug ?_ | refine Wp.ipaI ?_ | refine Wp.ipsI ?_ | refine Bk.ienumS ?_ | refine Wp.make_ ?_ | refine Wp.itnn ?_ | refine Wp.ltI ?_ | refine Wp.leI ?_ | refine Wp.leS ?_ | refine Wp.inSg ?_ | refine Wp.gtI ?_ | refine Wp.geI ?_ | refine Wp.eqI ?_ | refine Wp.neI ?_ | refine Wp.addI ?_ | refine Wp.ltS ?_ | refine Wp.eqS ?_ | refine Wp.neS ?_
    | refine Bk.ckw ?_ | refine Bk.callS ?_ | refine Bk.clAs ?_ | refine Bk.notL ?_ | refine Bk.revT ?_)
  | ((with_reducible refine' Wp.var ?hv ?_); (case hv => exact rfl))
  | ((with_reducible refine' Wp.ixl ?hs ?he ?_); (case hs => first | exact SqL.of upd_same | exact SqL.of (by assumption) | assumption); (case he => exact rfl))
  | ((with_reducible refine' Wp.setl ?hs ?he ?_); (case hs => first | exact upd_same | assumption); (case he => exact rfl))
  | ((with_reducible refine' Wp.modP ?hs ?_); (case hs => first | decide | omega))
  | ((with_reducible refine' Wp.divN ?hs ?ht ?_); (case hs => first | decide | omega); (case ht => first | decide | omega))
  | ((with_reducible refine' Wp.mulM ?hs ?ht ?_); (case hs => decide); (case ht => decide))
  | ((with_reducible refine' Wp.mulL ?hs ?_); (case hs => omega))
  | ((with_reducible refine' Wp.mulR ?hs ?_); (case hs => omega))
  | ((with_reducible refine' Wp.powS ?hs ?_); (case hs => decide))
  | ((with_reducible refine' Wp.shr ?hs ?_); (case hs => decide))
  | ((with_reducible refine' Wp.szl ?hs ?_); (case hs => first | decide | (simp; done)))
  | ((with_reducible refine' Wp.lenL ?hs ?_); (case hs => first | exact SqL.of upd_same | exact SqL.of (by assumption) | assumption))
  | ((with_reducible refine' Wp.lenT ?hs ?_); (case hs => first | exact SqT.of upd_same | exact SqT.of (by assumption) | assumption))
  | ((with_reducible refine' Wp.iteC ?hs ?_); (case hs => exact rfl)) | ((with_reducible refine' Wp.iteD ?hs ?_); (case hs => exact Bool.false_ne_true))
  | ((with_reducible refine' Wp.wp ?hs ?_); (case hs => rfl))
  | (with_reducible first | refine Wp.abs ?_ | refine Wp.max2 ?_ | refine Wp.min2 ?_)
  | ((with_reducible refine' Wp.sll ?hs ?_); (case hs => first | exact SqL.of upd_same | exact SqL.of (by assumption) | assumption)))
local macro_rules | `(tactic| walk_at "KQ") => `(tactic| first
  | exact Wp.kq "int" rfl (by decide +kernel) | exact Wp.kq "bool" rfl (by decide +kernel) | exact Wp.kq "str" rfl (by decide +kernel) | exact Wp.kq "list" rfl (by decide +kernel)
  | exact Wp.kq "tuple" rfl (by decide +kernel) | exact Wp.kq "NoneType" rfl (by decide +kernel) | exact Wp.kq "dict" rfl (by decide +kernel))

section
variable {P : Program} {w : World} {K : PySem.W.Frag} {mg : Str → Option Value} {base : Heap}
/-- what is refused with a book that is not settled -/
def spRefused (C CN : Addr) (g : V → V → V → List V) : Sp := fun vs H Q E => ∃ x p v sg rs z, vs = g x (.ref p) v ∧ BookAt C H p sg rs ∧ (∀ os q, OvSorted os (ovAll rs) → QuarAt rs os q → q = .str z) ∧ ∀ dd H', H dd = none → Same H H' → H' dd = some (.xd [("text", .str z)]) → E (.ref CN) (some dd) H'
theorem refused {C CN p : Addr} {sg : Str} {rs : List (Str × Str)} {z : Str} {H : Hp} {Q : VK} {E : XK} (hB : BookAt C H p sg rs) (hz : ∀ os q, OvSorted os (ovAll rs) → QuarAt rs os q → q = .str z) (e : ∀ dd H', H dd = none → Same H H' → H' dd = some (.xd [("text", .str z)]) → E (.ref CN) (some dd) H') : spCheckedX C CN [.ref p] H Q E :=
  ⟨p, sg, rs, rfl, hB, fun os q h1 h2 => by
    have := hz os q h1 h2
    subst this
    exact ⟨fun h => (nomatch h), fun _ => e⟩⟩
theorem ok_lotNo (B : Wp.Blt mg) {f fk C CN : Addr} {fd fdk : FuncData} (F : Fun K "__init__" "Lot.__init__" s_Lot___init__ f fd)
    (D_checked_book : Wp.Dh K mg "checked_book" fk fdk ["book"]) (G_checked_book : FnOk P w K mg base (L2.CX P w) 3 fk fdk ["book"] (spCheckedX C CN)) : FnOk P w K mg base (L2.CX P w) 4 f fd ["self", "book", "automaton"] (spRefused C CN fun x p v => [x, p, v]) := by
  refine F.okX sc_Lot___init__ (fun vs H Q E h => ?_) (fun cdv A outer s H vs Q E hr h => ?_)
  · obtain ⟨x, p, v, sg, rs, z, rfl, _⟩ := h
    rfl
  · obtain ⟨x, p, v, sg, rs, z, rfl, hB, hz, q⟩ := h
    refine ⟨_, (pss_cons (ps_expr (pe_call G_checked_book (hr.mono (by decide)) (by rfl) D_checked_book.g D_checked_book.k D_checked_book.b .nil (passes_call (takes_of rfl rfl rfl rfl) (fun _ _ _ _ h => h)) (pa_cons (pv 1) pa_nil)))
  pss_never), ?_⟩
    refine Wp.st (σ' := [some x, some (.ref p), some v]) rfl ?_
    repeat walk_at "W"
    exact refused hB hz q
theorem ok_wholeNo (B : Wp.Blt mg) {f fk C CN : Addr} {fd fdk : FuncData} (F : Fun K "whole" "whole" s_whole f fd)
    (D_checked_book : Wp.Dh K mg "checked_book" fk fdk ["book"]) (G_checked_book : FnOk P w K mg base (L2.CX P w) 3 fk fdk ["book"] (spCheckedX C CN)) : FnOk P w K mg base (L2.CX P w) 4 f fd ["book"] (spRefused C CN fun _ p _ => [p]) := by
  refine F.okX sc_whole (fun vs H Q E h => ?_) (fun cdv A outer s H vs Q E hr h => ?_)
  · obtain ⟨x, p, v, sg, rs, z, rfl, _⟩ := h
    rfl
  · obtain ⟨x, p, v, sg, rs, z, rfl, hB, hz, q⟩ := h
    refine ⟨_, (pss_cons (ps_expr (pe_call G_checked_book (hr.mono (by decide)) (by rfl) D_checked_book.g D_checked_book.k D_checked_book.b .nil (passes_call (takes_of rfl rfl rfl rfl) (fun _ _ _ _ h => h)) (pa_cons (pv 0) pa_nil)))
  pss_never), ?_⟩
    refine Wp.st (σ' := [some (.ref p), none, none]) rfl ?_
    repeat walk_at "W"
    exact refused hB hz q
theorem ok_meaningNo (B : Wp.Blt mg) {f fk C CN : Addr} {fd fdk : FuncData} (F : Fun K "meaning" "meaning" s_meaning f fd)
    (D_checked_book : Wp.Dh K mg "checked_book" fk fdk ["book"]) (G_checked_book : FnOk P w K mg base (L2.CX P w) 3 fk fdk ["book"] (spCheckedX C CN)) : FnOk P w K mg base (L2.CX P w) 4 f fd ["book", "text"] (spRefused C CN fun _ p v => [p, v]) := by
  refine F.okX sc_meaning (fun vs H Q E h => ?_) (fun cdv A outer s H vs Q E hr h => ?_)
  · obtain ⟨x, p, v, sg, rs, z, rfl, _⟩ := h
    rfl
  · obtain ⟨x, p, v, sg, rs, z, rfl, hB, hz, q⟩ := h
    refine ⟨_, (pss_cons (ps_expr (pe_call G_checked_book (hr.mono (by decide)) (by rfl) D_checked_book.g D_checked_book.k D_checked_book.b .nil (passes_call (takes_of rfl rfl rfl rfl) (fun _ _ _ _ h => h)) (pa_cons (pv 0) pa_nil)))
  pss_never), ?_⟩
    refine Wp.st (σ' := [some (.ref p), some v]) rfl ?_
    repeat walk_at "W"
    exact refused hB hz q
def spNever : Sp := fun _ _ _ _ => False
theorem ok_leastRNo {f : Addr} {fd : FuncData} (F : Fun K "least_rules" "least_rules" s_least_rules f fd) : FnOk P w K mg base CX0 4 f fd ["book"] spNever :=
  F.ok sc_least_rules (fun _ _ _ _ h => h.elim) (fun _ _ _ _ _ _ _ _ _ h => h.elim)
theorem ok_leastNo (B : Wp.Blt mg) {f fk fR fI C CN CS CB : Addr} {fd fdk fdR fdI : FuncData} (F : Fun K "least_book" "least_book" s_least_book f fd) (TB : BkC K C)
    (D_checked_book : Wp.Dh K mg "checked_book" fk fdk ["book"]) (G_checked_book : FnOk P w K mg base (L2.CX P w) 3 fk fdk ["book"] (spCheckedX C CN))
    (D_least_rules : Wp.Dh K mg "least_rules" fR fdR ["book"]) (G_least_rules : FnOk P w K mg base CX0 4 fR fdR ["book"] spNever)
    (M_Book : Mk K C fI) (k_Book : mg "Book" = some (.ref C)) (G_Book : FnOk P w K mg base (L2.CX P w) 5 fI fdI ["self", "signs", "rules"] (spBook K C CS CB)) (b_Book : Binds K fdI ["self", "signs", "rules"] []) : FnOk P w K mg base (L2.CX P w) 7 f fd ["book"] (spRefused C CN fun _ p _ => [p]) := by
  refine F.okX sc_least_book (fun vs H Q E h => ?_) (fun cdv A outer s H vs Q E hr h => ?_)
  · obtain ⟨x, p, v, sg, rs, z, rfl, _⟩ := h
    rfl
  · obtain ⟨x, p, v, sg, rs, z, rfl, hB, hz, q⟩ := h
    refine ⟨_, (pss_one (ps_ret (pe_make M_Book G_Book (hr.mono (by decide)) (by rfl) k_Book b_Book .nil (passes_call (takes_of rfl rfl rfl rfl) (fun _ _ _ _ h => h)) (pa_cons (Wp.wfld (K := K) (pe_fld (pv 0) rfl)) (pa_cons (pe_call G_least_rules (hr.mono (by decide)) (by rfl) D_least_rules.g D_least_rules.k D_least_rules.b .nil pass0 (pa_cons (pe_call G_checked_book (hr.mono (by decide)) (by rfl) D_checked_book.g D_checked_book.k D_checked_book.b .nil (passes_call (takes_of rfl rfl rfl rfl) (fun _ _ _ _ h => h)) (pa_cons (pv 0) pa_nil)) pa_nil)) pa_nil))))), ?_⟩
    refine Wp.st (σ' := [some (.ref p)]) rfl ?_
    repeat walk_at "W"
    refine bk_signs TB hB ?_
    repeat walk_at "W"
    exact refused hB hz q
end
end K09
set_option Elab.async false
set_option linter.all false
set_option maxRecDepth 100000
namespace K09
open PySem PySem.Spec PyProof.Rows L2 Bk
open Cf (Step Star)
theorem EndL.eq {rs : List (Str × Str)} {u : List Nat} {es fs : List (List Nat)} (h : EndL rs u es) (k : EndL rs u fs) : es = fs := txs_eq h.srt k.srt h.nd k.nd fun v => by rw [h.mem, k.mem]
/-- texts that have one end, two ends -/
theorem EndL.one {rs : List (Str × Str)} {u n : List Nat} {es : List (List Nat)} (h : EndL rs u es) (k : ∀ v, Star (RR rs) u v → Irr rs v → v = n) : es.length ≤ 1 :=
  nodup_le (vs := [n]) h.nd fun v hv => by
    obtain ⟨a, b⟩ := (h.mem v).mp hv
    exact List.mem_singleton.mpr (k v a b)
theorem EndL.two {rs : List (Str × Str)} {u v w : List Nat} {es : List (List Nat)} (h : EndL rs u es) (hv : v ∈ es) (hw : w ∈ es) (hne : v ≠ w) : 1 < es.length := by
  have := nodup_le (us := [v, w]) (vs := es) (by simp [hne]) fun x hx => by
    rcases List.mem_cons.mp hx with z | z
    · rw [z]; exact hv
    · rw [List.mem_singleton.mp z]; exact hw
  exact this
/-- a quarrel's ends are told -/
theorem quar_endL {rs : List (Str × Str)} (g : Good rs) {os : List Ov} {z : Str} (hs : OvSorted os (ovAll rs)) (q : QuarAt rs os (.str z)) {us : List (List Nat)} (h : EndsL rs (cl z) us) : EndL rs (cl z) us :=
  ⟨h.srt, h.nd, fun v => by rw [h.mem, (quar_ends g hs q).1]⟩
/-- the texts that the law finds with more ends than one -/
structure Quars (rs : List (Str × Str)) (all qs : List (List Nat)) : Prop where
  nd : qs.Nodup
  mem : ∀ u, u ∈ qs ↔ u ∈ all ∧ ∃ es, EndL rs u es ∧ 1 < es.length
theorem Quars.nil {rs : List (Str × Str)} (g : Good rs) {os : List Ov} (hs : OvSorted os (ovAll rs)) (q : QuarAt rs os .non) {all qs : List (List Nat)} (h : Quars rs all qs) : qs = [] := by
  cases e : qs with
  | nil => rfl
  | cons u r =>
    obtain ⟨_, es, h1, h2⟩ := (h.mem u).mp (by rw [e]; exact List.mem_cons_self)
    have := h1.one fun v a b => none_one g hs q a b
    omega
theorem Quars.head {rs : List (Str × Str)} (g : Good rs) {os : List Ov} {z : Str} (hs : OvSorted os (ovAll rs)) (q : QuarAt rs os (.str z)) {all qs es : List (List Nat)} (h : Quars rs all qs) (hz : cl z ∈ all) (hE : EndL rs (cl z) es) : ∃ r, asc qs = cl z :: r := by
  obtain ⟨h1, v, w, hne, hv, hw⟩ := quar_ends g hs q
  have hin : cl z ∈ asc qs := asc_mem.mpr ((h.mem _).mpr ⟨hz, es, hE, hE.two ((hE.mem v).mpr ((h1 v).mpr hv)) ((hE.mem w).mpr ((h1 w).mpr hw)) hne⟩)
  cases e : asc qs with
  | nil => rw [e] at hin; cases hin
  | cons u r =>
    refine ⟨r, ?_⟩
    congr 1
    refine Classical.byContradiction fun ne => ?_
    have hu : u ∈ qs := asc_mem.mp (by rw [e]; exact List.mem_cons_self)
    have srt := asc_sorted qs
    rw [e] at srt hin
    have hle : txLe u (cl z) = true := by
      rcases List.mem_cons.mp hin with y | y
      · exact absurd y.symm ne
      · exact (List.pairwise_cons.mp srt).1 _ y
    obtain ⟨_, es2, h3, h4⟩ := (h.mem u).mp hu
    have := h3.one fun v a b => quar_one g hs q ⟨hle, ne⟩ a b
    omega
end K09

set_option Elab.async false
set_option linter.all false
set_option maxRecDepth 100000
set_option maxHeartbeats 8000000
namespace K09
open PySem PySem.Spec PyProof.Rows L2 Bk
open Cf (Step Star)
open Wp (Keep wo_lt wo_le wo_gt wo_ge wo_eq wo_ne wo_in wo_nin wo_add wo_mul op_shlB ws_any wc_int wc_isi u65)
abbrev s_law : Stmt := topS 121
abbrev N_law : List Str := ["_law_script", "_law_source_here", "_law_signs_here", "_law_rules", "_law_ends_of", "_law_text", "_law_quarrels", "_law_book", "_law_told", "_law_least", "_law_turn", "raised"]
theorem sc_law : FnScope N_law ["_law_script"] (defScope s_law) := ⟨rfl, rfl, rfl, by decide +kernel, rfl, by decide +kernel, by decide +kernel⟩
local macro_rules | `(tactic| walk_at "W") => `(tactic| first
  | (with_reducible first
    | refine Wp.seq ?_ | refine Wp.asg ?_ | refine Wp.ret ?_ | refine Wp.retN ?_ | refine Wp.drop ?_ | refine Wp.nxt ?_ | refine Wp.ifs ?_ | refine Wp.gname ?_
    | refine Wp.op ?_ | refine Wp.un ?_ | refine Wp.tst ?_ | refine Wp.tb' ?_ | refine Wp.tnot ?_ | refine Wp.tand ?_ | refine Wp.tor ?_ | refine Wp.tandV ?_ | refine Wp.torV ?_ | refine Wp.tnotV ?_ | refine Wp.tif ?_ | refine Wp.tchain ?_
    | refine Wp.cb ?_ | refine Wp.call ?_ | refine Wp.cons ?_ | refine Wp.nil ?_ | refine Wp.gsub ?_ | refine Wp.cst ?_ | refine Wp.i0 ?_ | refine Wp.int1 ?_ | refine Wp.eb ?_ | refine Wp.ei ?_
    | refine Wp.gnil ?_ | refine Wp.gcons ?_ | refine Wp.mko ?_ | refine Wp.bm ?_ | refine Wp.ienum ?_ | refine Wp.tru ?_ | refine Wp.u1 ?_ | refine Wp.for_ ?_ | refine Wp.lc ?_ | refine Wp.istr ?_ | refine Wp.ilist ?_ | refine Wp.itup ?_ | refine Wp.irng1 ?_ | refine Wp.irng2 ?_ | refine Wp.yes ?_ | refine Wp.es ?_ | refine Wp.er ?_ | refine Wp.sl ?_ | refine Wp.nopart ?_ | refine Wp.part ?_ | refine Wp.lst ?_ | refine Wp.tup ?_
    | refine Wp.din ?_ | refine Wp.dnotin ?_ | refine Wp.dget ?_ | refine Wp.dget2 ?_ | refine Wp.dput ?_ | refine Wp.dnewK ?_ | refine Wp.dnewT ?_ | refine Wp.bm0 ?_ | refine Wp.m1 ?_ | refine Wp.exs ?_ | refine Wp.is0 ?_ | refine Wp.isnot0 ?_ | refine Wp.fld ?_ | refine Wp.sfld ?_
    | refine Wp.par ?_ | refine Wp.parV ?_ | refine Wp.brk ?_ | refine Wp.aug ?_ | refine Wp.ipaI ?_ | refine Wp.ipsI ?_ | refine Bk.ienumS ?_ | refine Wp.make_ ?_ | refine Wp.itnn ?_ | refine Wp.ltI ?_ | refine Wp.leI ?_ | refine Wp.leS ?_ | refine Wp.inSg ?_ | refine Wp.gtI ?_ | refine Wp.geI ?_ | refine Wp.eqI ?_ | refine Wp.neI ?_ | refine Wp.addI ?_ | refine Wp.ltS ?_ | refine Wp.eqS ?_ | refine Wp.neS ?_
    | refine Bk.ckw ?_ | refine Bk.callS ?_ | refine Bk.clAs ?_ | refine Bk.notL ?_ | refine Bk.revT ?_)
  | ((with_reducible refine' Wp.var ?hv ?_); (case hv => exact rfl))
  | ((with_reducible refine' Wp.ixl ?hs ?he ?_); (case hs => first | exact SqL.of upd_same | exact SqL.of (by assumption) | assumption); (case he => exact rfl))
  | ((with_reducible refine' Wp.setl ?hs ?he ?_); (case hs => first | exact upd_same | assumption); (case he => exact rfl))
  | ((with_reducible refine' Wp.modP ?hs ?_); (case hs => first | decide | omega))
  | ((with_reducible refine' Wp.divN ?hs ?ht ?_); (case hs => first | decide | omega); (case ht => first | decide | omega))
  | ((with_reducible refine' Wp.mulM ?hs ?ht ?_); (case hs => decide); (case ht => decide))
  | ((with_reducible refine' Wp.mulL ?hs ?_); (case hs => omega))
  | ((with_reducible refine' Wp.mulR ?hs ?_); (case hs => omega))
  | ((with_reducible refine' Wp.powS ?hs ?_); (case hs => decide))
  | ((with_reducible refine' Wp.shr ?hs ?_); (case hs => decide))
  | ((with_reducible refine' Wp.szl ?hs ?_); (case hs => first | decide | (simp; done)))
  | ((with_reducible refine' Wp.lenL ?hs ?_); (case hs => first | exact SqL.of upd_same | exact SqL.of (by assumption) | assumption))
  | ((with_reducible refine' Wp.lenT ?hs ?_); (case hs => first | exact SqT.of upd_same | exact SqT.of (by assumption) | assumption))
  | ((with_reducible refine' Wp.iteC ?hs ?_); (case hs => exact rfl)) | ((with_reducible refine' Wp.iteD ?hs ?_); (case hs => exact Bool.false_ne_true))
  | ((with_reducible refine' Wp.wp ?hs ?_); (case hs => rfl))
  | (with_reducible first | refine Wp.abs ?_ | refine Wp.max2 ?_ | refine Wp.min2 ?_)
  | ((with_reducible refine' Wp.sll ?hs ?_); (case hs => first | exact SqL.of upd_same | exact SqL.of (by assumption) | assumption)))
local macro_rules | `(tactic| walk_at "KQ") => `(tactic| first
  | exact Wp.kq "int" rfl (by decide +kernel) | exact Wp.kq "bool" rfl (by decide +kernel) | exact Wp.kq "str" rfl (by decide +kernel) | exact Wp.kq "list" rfl (by decide +kernel)
  | exact Wp.kq "tuple" rfl (by decide +kernel) | exact Wp.kq "NoneType" rfl (by decide +kernel) | exact Wp.kq "dict" rfl (by decide +kernel))

theorem shw_5 {z : Str} (h : PyData.strOk z = true) (hl : z.length ≤ 5) : Wp.Shw 0 105 (.str z) := by
  refine ⟨?_, by simp [PyData.showable], by simp [PyData.intsShort], by simp [PyData.depth], ?_⟩
  · rw [PyData.canLay0]; exact h
  · rw [PyData.weight]
    have : z.cps.size = z.length := rfl
    omega
theorem shw_tx {us : List (List Nat)} (h : ∀ u ∈ us, PyData.strOk (mkS u) = true ∧ u.length ≤ 5) : Wp.Shw 1 (us.length * (105 + 1)) (.tuple (txD us)) := by
  have key := Wp.Shw.tup (n := 0) (c := 105) (ds := txD us) fun d hd => by
    obtain ⟨u, hu, rfl⟩ := List.mem_map.mp hd
    obtain ⟨h1, h2⟩ := h u hu
    exact shw_5 h1 (by rw [len_mk]; exact h2)
  rwa [List.length_map] at key
theorem truO {C : Addr} {sp : Sp} {ta : TE} {σ : L2.St} {H : Hp} {R : Bool → Hp → Prop} (h : ta σ H fun x H' => ∃ a dx fs, x = .ref a ∧ H' a = some (.ins C dx fs) ∧ sp [.ref a] H' (fun v H2 => ∃ b, v = .bl b ∧ R b H2) E0) : tTruO C sp ta σ H R := h
theorem makeS {C : Addr} {sp : Sp} {E : L2.St → XK} {t : TA} {σ : L2.St} {H : Hp} {Q : VK} (h : t σ H fun vs H1 => ∀ x dx, H1 x = none → H1 dx = none → dx ≠ x → sp (.ref x :: vs) (upd (upd H1 dx (.own x)) x (.ins C dx [])) (fun v H2 => v = .non ∧ Q (.ref x) H2) (E σ)) : tMakeS C sp E t σ H Q := h
theorem frzK_get {a : Addr} {od : Obj} {kvs : List (Key × V)} {z : Str} {v : V} {H : Hp} {R : V → Prop} (h : H a = some (.frz od (.dK kvs))) (e : valV kvs (Sum.inr z) = some v) (q : R v) : ∃ b w, V.ref a = .ref b ∧ DGet H b (.str z) (some w) ∧ R w := ⟨a, v, rfl, by rw [← e]; exact .inl ⟨kvs, Sum.inr z, .inr ⟨od, h⟩, rfl, rfl⟩, q⟩
section
variable {P : Program} {w : World} {K : PySem.W.Frag} {mg : Str → Option Value} {base : Heap}
def spLaw (K : PySem.W.Frag) : Sp := fun vs H Q _ => ∃ (a : Addr) (ns : List Int), vs = [.ref a] ∧ SqL K H a (ns.map V.int) ∧ ns.length ≤ 63 ∧ (∀ z ∈ ns, Builtin.Int.intBits z ≤ 1048576) ∧ ∀ H', Q (.bl true) H'
theorem top_law (B : Wp.Blt mg) {f fS fG fD fA fY fZ fI fO fL fW fM fE fq pq C CS CB CN CR X CL : Addr} {fd fdS fdG fdD fdA fdY fdZ fdI fdO fdL fdW fdM fdE fdq : FuncData} (F : Fun K "law" "law" s_law f fd) (TB : BkC K C) (TX : StC K X)
    (D__law_source : Wp.Dh K mg "_law_source" fS fdS ["_law_script", "_law_place"]) (G__law_source : FnOk P w K mg base CX0 1 fS fdS ["_law_script", "_law_place"] (spSource K))
    (D__law_signs : Wp.Dh K mg "_law_signs" fG fdG ["_law_source_here"]) (G__law_signs : FnOk P w K mg base CX0 2 fG fdG ["_law_source_here"] spSigns)
    (D__law_drawn : Wp.Dh K mg "_law_drawn" fD fdD ["_law_source_here", "_law_signs_here"]) (G__law_drawn : FnOk P w K mg base CX0 3 fD fdD ["_law_source_here", "_law_signs_here"] (spDrawnN 1 4 3))
    (D__law_all_ends : Wp.Dh K mg "_law_all_ends" fA fdA ["_law_signs_here", "_law_rules", "_law_size"]) (G__law_all_ends : FnOk P w K mg base CX0 4 fA fdA ["_law_signs_here", "_law_rules", "_law_size"] spAllE)
    (D__law_key : Wp.Dh K mg "_law_key" fY fdY ["_law_text"]) (G__law_key : FnOk P w K mg base CX0 1 fY fdY ["_law_text"] spLKey)
    (D_settled : Wp.Dh K mg "settled" fZ fdZ ["book"]) (G_settled : FnOk P w K mg base CX0 5 fZ fdZ ["book"] (spSettledX C X))
    (M_Book : Mk K C fI) (k_Book : mg "Book" = some (.ref C)) (G_Book : FnOk P w K mg base (L2.CX P w) 5 fI fdI ["self", "signs", "rules"] (spBook K C CS CB)) (b_Book : Binds K fdI ["self", "signs", "rules"] [])
    (BC : BoolC K X fO) (G_bool : FnOk P w K mg base CX0 1 fO fdO ["self"] (spStB X)) (b_bool : Binds K fdO ["self"] [])
    (Pq : PropOf K C "quarrel" pq fq) (Gq : FnOk P w K mg base CX0 1 fq fdq ["self"] (getSp C "_quarrel")) (bq : Binds K fdq ["self"] [])
    (M_Lot : Mk K CL fL) (k_Lot : mg "Lot" = some (.ref CL)) (G_Lot : FnOk P w K mg base (L2.CX P w) 4 fL fdL ["self", "book", "automaton"] (spRefused C CN fun x p v => [x, p, v])) (b_Lot : Binds K fdL ["self", "book", "automaton"] [])
    (D_whole : Wp.Dh K mg "whole" fW fdW ["book"]) (G_whole : FnOk P w K mg base (L2.CX P w) 4 fW fdW ["book"] (spRefused C CN fun _ p _ => [p]))
    (D_meaning : Wp.Dh K mg "meaning" fM fdM ["book", "text"]) (G_meaning : FnOk P w K mg base (L2.CX P w) 4 fM fdM ["book", "text"] (spRefused C CN fun _ p v => [p, v]))
    (D_least_book : Wp.Dh K mg "least_book" fE fdE ["book"]) (G_least_book : FnOk P w K mg base (L2.CX P w) 7 fE fdE ["book"] (spRefused C CN fun _ p _ => [p]))
    (TN : Ca K mg "NotSettled" CN "text") (k_ShrunkError : mg "ShrunkError" = some (.ref CR)) (iNR : PySem.W.kitOne K (.ref CN) (.ref CR) = some true) : Wp.FnTop P w K mg base CX0 f fd ["_law_script"] (spLaw K) := by
  refine Wp.top_of F sc_law (k := 11) (fun vs H Q E h => ?_) ⟨rfl, by decide, by decide⟩ (fun cdv s H vs Q E hr h => ?_)
  · obtain ⟨a, ns, rfl, _⟩ := h
    rfl
  · obtain ⟨a0, zs, rfl, hS, hlen, hbits, q⟩ := h
    have hu65 := u65 hr
    have hgt : (callerA.deeper (envOfC "law" (defScope s_law) s.heap.objs.size f cdv)).guards = some [] := Wp.guards_top
    refine ⟨_, (pss_cons (ps_set (i := 1) sc_law.nd rfl (by first | exact .inl rfl | exact .inr rfl) (pe_call G__law_source (hr.mono (by decide)) (by rfl) D__law_source.g D__law_source.k D__law_source.b .nil pass0 (pa_cons (pv 0) (pa_cons pe_int pa_nil))))
  (pss_cons (ps_set (i := 2) sc_law.nd rfl (by first | exact .inl rfl | exact .inr rfl) (pe_call G__law_signs (hr.mono (by decide)) (by rfl) D__law_signs.g D__law_signs.k D__law_signs.b .nil pass0 (pa_cons (pv 1) pa_nil)))
  (pss_cons (ps_set (i := 3) sc_law.nd rfl (by first | exact .inl rfl | exact .inr rfl) (pe_call G__law_drawn (hr.mono (by decide)) (by rfl) D__law_drawn.g D__law_drawn.k D__law_drawn.b .nil pass0 (pa_cons (pv 1) (pa_cons (pv 2) pa_nil))))
  (pss_cons (ps_set (i := 4) sc_law.nd rfl (by first | exact .inl rfl | exact .inr rfl) (pe_call G__law_all_ends (hr.mono (by decide)) (by rfl) D__law_all_ends.g D__law_all_ends.k D__law_all_ends.b .nil pass0 (pa_cons (pv 2) (pa_cons (pv 3) (pa_cons pe_int pa_nil)))))
  (pss_cons (ps_lock (ps_setLc (i := 6) (own := [("_law_text", 5)]) (g := gName 5) (by rfl) sc_law.nd rfl rfl (sw_true rfl rfl rfl (by decide +kernel)) (pi_keys (pv 4)) (blkOk_by (own := [("_law_text", 5)]) (N := N_law) (sc := defScope s_law) (by decide +kernel)) (fun _ _ _ _ _ => pg_name (i := 5) sc_law.nd rfl (Or.inl rfl)) (fun _ _ _ _ _ => pts_one (pt_cmpR wo_gt (pe_callB (Wp.wc_len (K := K)) (by rfl) B.len (by decide +kernel) (pa_cons (pe_dget (hu_of hr) (pv 4) (pv 5) (fun _ _ => rfl)) pa_nil)) pe_int (nomark _))) (fun _ _ _ _ _ => (pv 5))))
  (pss_cons (ps_set (i := 7) sc_law.nd rfl (by first | exact .inl rfl | exact .inr rfl) (pe_make M_Book G_Book (hr.mono (by decide)) (by rfl) k_Book b_Book .nil Wp.passX0 (pa_cons (pv 2) (pa_cons (pv 3) pa_nil))))
  (pss_cons (ps_set (i := 8) sc_law.nd rfl (by first | exact .inl rfl | exact .inr rfl) (pe_call G_settled (hr.mono (by decide)) (by rfl) D_settled.g D_settled.k D_settled.b .nil pass0 (pa_cons (pv 7) pa_nil)))
  (pss_cons (ps_if (pt_not (Wp.wt_truth (K := K) (pv 6) (by intro _; rfl))) (pss_cons (ps_if (PW.pt (pw_or (pt_cmpR Wp.wo_isnot (pe_prop (pv 7) TB.cl Pq Gq (hr.mono (by decide)) bq .nil pass0 rfl) pe_non (nomark _)) (pw_or (pt_cmpR (wo_ne (K := K) hr.units) (pe_callB (Bk.wc_reprB (K := K) Wp.guards_top (u65 hr)) (by rfl) B.repr (by decide +kernel) (pa_cons (Wp.wfld (K := K) (pe_fld (pv 8) rfl)) pa_nil)) pe_str (nomark _)) (pw_or1 (pt_not (Bk.pt_truO (pv 8) BC (G_bool.raw b_bool .nil) (hr.mono (by decide)) (by intro _; rfl))))))) (pss_one (ps_ret pe_bl)) pss_nil)
  (pss_one (ps_ret (pe_and (pe_cmpR Wp.wo_is (Wp.wfld (K := K) (pe_fld (pv 8) rfl)) pe_non (nomark _)) (pe_and (pe_cmpR Wp.wo_is (Wp.wfld (K := K) (pe_fld (pv 8) rfl)) pe_non (nomark _)) (pe_one (pe_callB (wc_isi (K := K)) (by rfl) B.isinstance (by decide +kernel) (pa_cons (Wp.wfld (K := K) (pe_fld (pv 8) rfl)) (pa_cons (pe_bltn (v := .ty "tuple") (by rfl) B.tuple (by decide +kernel) rfl) pa_nil))))))))) pss_nil)
  (pss_cons (ps_set (i := 9) sc_law.nd rfl (by first | exact .inl rfl | exact .inr rfl) (pe_ix (Wp.wx_seq (K := K)) (pe_callBK (Bk.wc_sortK (K := K) G__law_key D__law_key.b (hr.mono (by decide))) (by rfl) B.sorted (by decide +kernel) (pa_cons (pv 6) pa_nil) (pk_cons (pe_glob (v := .ref _) (by rfl) D__law_key.g rfl) pk_nil)) pe_int (fun _ _ => rfl)))
  (pss_cons (ps_if (PW.pt (pw_or (pt_cmpR (wo_ne (K := K) hr.units) (pe_callB (Bk.wc_reprB (K := K) Wp.guards_top (u65 hr)) (by rfl) B.repr (by decide +kernel) (pa_cons (pe_prop (pv 7) TB.cl Pq Gq (hr.mono (by decide)) bq .nil pass0 rfl) pa_nil)) (pe_callB (Bk.wc_reprB (K := K) Wp.guards_top (u65 hr)) (by rfl) B.repr (by decide +kernel) (pa_cons (pv 9) pa_nil)) (nomark _)) (pw_or (pt_cmpR (wo_ne (K := K) hr.units) (pe_callB (Bk.wc_reprB (K := K) Wp.guards_top (u65 hr)) (by rfl) B.repr (by decide +kernel) (pa_cons (Wp.wfld (K := K) (pe_fld (pv 8) rfl)) pa_nil)) pe_str (nomark _)) (pw_or (Bk.pt_truO (pv 8) BC (G_bool.raw b_bool .nil) (hr.mono (by decide)) (by intro _; rfl)) (pw_or1 (pt_cmpR Wp.wo_isnot (Wp.wfld (K := K) (pe_fld (pv 8) rfl)) pe_non (nomark _))))))) (pss_one (ps_ret pe_bl)) pss_nil)
  (pss_cons (ps_if (PW.pt (pw_or (pt_cmpR (wo_ne (K := K) hr.units) (pe_callB (Bk.wc_reprB (K := K) Wp.guards_top (u65 hr)) (by rfl) B.repr (by decide +kernel) (pa_cons (Wp.wfld (K := K) (pe_fld (pv 8) rfl)) pa_nil)) (pe_callB (Bk.wc_reprB (K := K) Wp.guards_top (u65 hr)) (by rfl) B.repr (by decide +kernel) (pa_cons (pv 9) pa_nil)) (nomark _)) (pw_or1 (pt_cmpR (wo_ne (K := K) hr.units) (pe_callB (Bk.wc_reprB (K := K) Wp.guards_top (u65 hr)) (by rfl) B.repr (by decide +kernel) (pa_cons (Wp.wfld (K := K) (pe_fld (pv 8) rfl)) pa_nil)) (pe_callB (Bk.wc_reprB (K := K) Wp.guards_top (u65 hr)) (by rfl) B.repr (by decide +kernel) (pa_cons (pe_callTy (Wp.wc_tuple (K := K)) (by rfl) B.tuple (by decide +kernel) (pa_cons (pe_dget (hu_of hr) (pv 4) (pv 9) (fun _ _ => rfl)) pa_nil)) pa_nil)) (nomark _))))) (pss_one (ps_ret pe_bl)) pss_nil)
  (pss_cons (ps_for (passes_of rfl) rfl (pi_range1 (by rfl) B.range (pa_cons pe_int pa_nil)) (pg_name (i := 10) sc_law.nd rfl (by first | exact .inl rfl | exact .inr rfl)) (pss_one (Bk.ps_try_mas rfl rfl sc_law.nd
 (fun W pn xe tk _ => pss_cons (ps_if (pt_cmpR (wo_eq (K := K) hr.units) (pv 10) pe_int (nomark _)) (pss_one (ps_expr (by exact (Bk.pe_makeS (t := tCons (tVar 7) (tCons (tC .non) tNil)) M_Lot G_Lot (hr.mono (by decide)) (by rfl) k_Lot b_Lot (fun σ => passAt tk σ) (pa_cons (pv 7) (pa_cons pe_non pa_nil))))))
    (pss_one (ps_if (pt_cmpR (wo_eq (K := K) hr.units) (pv 10) pe_int (nomark _)) (pss_one (ps_expr (by exact (pe_callS (t := tCons (tVar 7) tNil) G_whole (hr.mono (by decide)) (by rfl) D_whole.g D_whole.k D_whole.b (fun σ => passAt tk σ) (pa_cons (pv 7) pa_nil)))))
    (pss_one (ps_if (pt_cmpR (wo_eq (K := K) hr.units) (pv 10) pe_int (nomark _)) (pss_one (ps_expr (by exact (pe_callS (t := tCons (tVar 7) (tCons (tC .non) tNil)) G_meaning (hr.mono (by decide)) (by rfl) D_meaning.g D_meaning.k D_meaning.b (fun σ => passAt tk σ) (pa_cons (pv 7) (pa_cons pe_non pa_nil))))))
     (pss_one (ps_expr (by exact (pe_callS (t := tCons (tVar 7) tNil) G_least_book (hr.mono (by decide)) (by rfl) D_least_book.g D_least_book.k D_least_book.b (fun σ => passAt tk σ) (pa_cons (pv 7) pa_nil)))))))))) (pss_one (ps_ret pe_bl)))
 (.cons (n := some "raised") (o := some 11) ⟨rfl, rfl⟩ ⟨rfl, by decide, Or.inl TN.g⟩ (fun a oe cls d pn hz hf => pss_one (ps_if (PW.pt (pw_or (pt_cmpR (wo_ne (K := K) hr.units) (pe_callB (Bk.wc_reprB (K := K) hgt hu65) (by rfl) B.repr (by decide +kernel) (pa_cons (pe_xf TN.xf TN.no hz hf (pv 11)) pa_nil)) (pe_callB (Bk.wc_reprB (K := K) hgt hu65) (by rfl) B.repr (by decide +kernel) (pa_cons (pv 9) pa_nil)) (nomark _))
   (pw_or1 (pt_not (pt_val (pe_callB (Wp.call_isEd (K := K) TN.ec hz hf) (by rfl) B.isinstance (by decide +kernel) (pa_cons (pv 11) (pa_cons (pe_glob (v := .ref CR) (by rfl) k_ShrunkError rfl) pa_nil)))))))) (pss_one (ps_ret pe_bl)) pss_nil)) .nil))))
  (pss_one (ps_ret pe_bl)))))))))))))), ?_⟩
    have hbig : (1000000 : Nat) < sizeLine := by decide
    refine Wp.st (σ' := [some (.ref a0), none, none, none, none, none, none, none, none, none, none, none]) rfl ?_
    refine Wp.cutQ (fun σ' H' => ∃ a, σ' = [some (.ref a0), some (.ref a), none, none, none, none, none, none, none, none, none, none] ∧ H a = none ∧ Same H H' ∧ Src H' a) (fun nx hn => ?_) ?_
    · repeat walk_at "W"
      refine ⟨a0, zs, 0, rfl, hS, hlen, hbits, by decide, by decide, fun H1 a s1 ha c1 => ?_⟩
      repeat walk_at "W"
      exact hn _ _ ⟨a, rfl, ha, s1, c1⟩
    rintro σ' H1 ⟨a, rfl, ha, s1, c1⟩
    refine Wp.cutQ (fun σ' H' => ∃ sg, σ' = [some (.ref a0), some (.ref a), some (.str sg), none, none, none, none, none, none, none, none, none] ∧ sg ∈ menu ∧ Src H' a ∧ Keep a H1 H') (fun nx hn => ?_) ?_
    · repeat walk_at "W"
      refine ⟨a, rfl, c1, fun sg H2 hmn c2 k2 => ?_⟩
      repeat walk_at "W"
      exact hn _ _ ⟨sg, rfl, hmn, c2, k2⟩
    rintro σ' H2 ⟨sg, rfl, hmn, c2, k2⟩
    obtain ⟨hsl0, hsl3⟩ := menu_3 hmn
    refine Wp.cutQ (fun σ' H' => ∃ t bs rs, σ' = [some (.ref a0), some (.ref a), some (.str sg), some (.ref t), none, none, none, none, none, none, none, none] ∧ H' t = some (.tup (bs.map V.ref)) ∧ RulesAt H' bs rs ∧ (∀ p ∈ rs, RuleOk sg p.1 p.2 ∧ p.1.length ≤ 3) ∧ rs.Nodup ∧ rs.length ≤ 4) (fun nx hn => ?_) ?_
    · repeat walk_at "W"
      refine ⟨a, sg, rfl, c2, hmn, fun H4 t bs rs k4 c4 _ ht hR hok hnd _ hhi => ?_⟩
      repeat walk_at "W"
      exact hn _ _ ⟨t, bs, rs, rfl, ht, hR, hok, hnd, by omega⟩
    rintro σ' H3 ⟨t, bs, rs, rfl, ht, hR, hok3, hnd, hle⟩
    have hok : ∀ p ∈ rs, RuleOk sg p.1 p.2 := fun p hp => (hok3 p hp).1
    have hg : Good rs := goodOf hok
    have hbl := hR.len
    have hrs : ∀ q ∈ rs, ∀ c ∈ cl q.2, c ∈ cl sg := fun q hq => (hok q hq).rc
    have hel := @endsUp_len [] (cl sg) (by rw [len_cl]; omega) 5 (by omega)
    have hin := fun u => @up_in (cl sg) 5 u
    have hnU := up_nodup5 sg hmn
    have hallU : ∀ {u : List Nat}, (∀ c ∈ u, c ∈ cl sg) → u.length ≤ 5 → u ∈ endsUp [] (cl sg) 5 := fun a b => all_up a b
    generalize hU : endsUp [] (cl sg) 5 = U at hel hin hnU hallU
    refine Wp.cutQ (fun σ' H' => ∃ D kvs, σ' = [some (.ref a0), some (.ref a), some (.str sg), some (.ref t), some (.ref D), none, none, none, none, none, none, none] ∧ Same H3 H' ∧ H' D = some (.dK kvs) ∧ DictE rs H' kvs U) (fun nx hn => ?_) ?_
    · repeat walk_at "W"
      refine ⟨sg, t, bs, rs, rfl, hmn, ht, hR, by omega, hg, hrs, fun H5 D kvs s5 hD hE => ?_⟩
      rw [hU] at hE
      repeat walk_at "W"
      exact hn _ _ ⟨D, kvs, rfl, s5, hD, hE⟩
    rintro σ' H4 ⟨D, kvs, rfl, s4, hD, hE⟩
    have hkl := hE.len
    refine Wp.cutQ (fun σ' H' => ∃ A qs, σ' = [some (.ref a0), some (.ref a), some (.str sg), some (.ref t), some (.ref D), none, some (.ref A), none, none, none, none, none] ∧ Same H4 H' ∧ H' A = some (.lst (tx qs)) ∧ Quars rs U qs) (fun nx hn => ?_) ?_
    · repeat walk_at "W"
      refine ⟨D, .dK kvs, hD, trivial, fun od => ?_⟩
      have hFd : (upd H4 D (.frz od (.dK kvs))) D = some (.frz od (.dK kvs)) := upd_same
      have hF1 : ∀ b o, b ≠ D → H4 b = some o → (upd H4 D (.frz od (.dK kvs))) b = some o := fun b o h e => by rw [upd_ne h]; exact e
      have hF0 : ∀ b, (upd H4 D (.frz od (.dK kvs))) b = none → H4 b = none := fun b e => by
        by_cases z : b = D
        · rw [z, hFd] at e; cases e
        · rw [upd_ne z] at e; exact e
      generalize upd H4 D (.frz od (.dK kvs)) = G0 at hFd hF1 hF0 ⊢
      repeat walk_at "W"
      refine ⟨.ref D, rfl, D, od, rfl, .inl ⟨kvs, hFd, fun A hA => ?_⟩⟩
      have hAD : A ≠ D := fun z => by rw [z, hFd] at hA; cases hA
      have hA1 := hF0 _ hA
      refine Wp.lcIt walk_keys (fun i G => Same G0 G ∧ ∃ qs, G A = some (.lst (tx qs)) ∧ Quars rs (U.take i) qs) ⟨Wp.same_upd hA, [], upd_same, .nil, fun u => by simp⟩ (fun i G _ h => h.1 _ _ hFd) ?_ ?_
      · rintro i x G G' hi ⟨s5, qs, h1, h2⟩ ⟨eG, k, v, hkv, rfl⟩
        rw [eG]
        have hiU : i < U.length := by omega
        obtain ⟨L, es, f1, f2, f3, f4⟩ := hE.at_ i _ (List.getElem?_eq_getElem hiU)
        have hui : U[i]? = some U[i] := List.getElem?_eq_getElem hiU
        generalize U[i] = u at f1 f2 f4 hui
        rw [f1] at hkv
        cases hkv
        have hLD : L ≠ D := fun e => by rw [e, hD] at f3; cases f3
        have hL := s5 _ _ (hF1 _ _ hLD f3)
        have htk : U.take (i + 1) = U.take i ++ [u] := by rw [List.take_add_one, hui]; rfl
        have hnu : u ∉ U.take i := fun z => by
          have := (List.take_sublist (i + 1) U).nodup hnU
          rw [htk] at this
          exact (List.nodup_append.mp this).2.2 u z u (by simp) rfl
        have hesl : es.length ≤ 1458 := Nat.le_trans (nodup_le f4.nd fun w hw => hallU (star_over hrs ((f4.mem w).mp hw).1 (hin u (List.mem_of_getElem? hui)).2) (by
          have h8 := ((f4.mem w).mp hw).1.le (rr_short hg)
          have h9 := (hin u (List.mem_of_getElem? hui)).1
          omega)) hel
        have hql : qs.length ≤ 1458 := Nat.le_trans (nodup_le h2.nd fun w hw => List.mem_of_mem_take ((h2.mem w).mp hw).1) hel
        repeat walk_at "W"
        refine frzK_get (s5 _ _ hFd) f2 ?_
        repeat walk_at "W"
        rw [show (tx es).length = es.length from List.length_map _]
        refine Wp.itd (fun e1 => ?_) (fun e1 => ?_)
        · repeat walk_at "W"
          refine ⟨_, h1, by rw [List.length_map]; omega, fun b o e => ?_, qs ++ [u], by rw [upd_same, tx_app]; rfl, ?_, fun w => ?_⟩
          · rw [upd_ne (ne_of_none e hA)]; exact s5 _ _ e
          · refine List.nodup_append.mpr ⟨h2.nd, by simp, fun y hy z hz e => ?_⟩
            rw [e, List.mem_singleton.mp hz] at hy
            exact hnu ((h2.mem u).mp hy).1
          · rw [List.mem_append, h2.mem, htk, List.mem_append, List.mem_singleton]
            constructor
            · rintro (⟨z1, z2⟩ | rfl)
              · exact ⟨.inl z1, z2⟩
              · exact ⟨.inr rfl, es, f4, by omega⟩
            · rintro ⟨z1 | rfl, z2⟩
              · exact .inl ⟨z1, z2⟩
              · exact .inr rfl
        · refine ⟨s5, qs, h1, h2.nd, fun w => ?_⟩
          rw [h2.mem, htk, List.mem_append, List.mem_singleton]
          constructor
          · rintro ⟨z1, z2⟩
            exact ⟨.inl z1, z2⟩
          · rintro ⟨z1 | rfl, z2⟩
            · exact ⟨z1, z2⟩
            · obtain ⟨es2, g1, g2⟩ := z2
              rw [g1.eq f4] at g2
              omega
      · rintro G ⟨s5, qs, h1, h2⟩
        rw [hkl, List.take_length] at h2
        repeat walk_at "W"
        refine ⟨s5 _ _ hFd, ?_⟩
        have s6 : Same H4 (upd G D (.dK kvs)) := fun b u e => by
          by_cases z : b = D
          · rw [z] at e ⊢
            rw [upd_same, ← hD, e]
          · rw [upd_ne z]; exact s5 _ _ (hF1 _ _ z e)
        exact hn _ _ ⟨A, qs, rfl, s6, by rw [upd_ne hAD]; exact h1, h2⟩
    rintro σ' H5 ⟨A, qs, rfl, s5, hA, hQ⟩
    have s35 := s4.trans s5
    have hql : qs.length ≤ 1458 := Nat.le_trans (nodup_le hQ.nd fun w hw => ((hQ.mem w).mp hw).1) hel
    refine Wp.cutQ (fun σ' H' => ∃ p, σ' = [some (.ref a0), some (.ref a), some (.str sg), some (.ref t), some (.ref D), none, some (.ref A), some (.ref p), none, none, none, none] ∧ Same H5 H' ∧ BookAt C H' p sg rs) (fun nx hn => ?_) ?_
    · repeat walk_at "W"
      refine book_make hmn (s35 _ _ ht) (hR.same s35) hok hnd (by omega) fun p H6 s6 hB => ?_
      repeat walk_at "W"
      exact hn _ _ ⟨p, rfl, s6, hB⟩
    rintro σ' H6 ⟨p, rfl, s6, hB⟩
    have hA6 := s6 _ _ hA
    have hD6 := s6 _ _ (s5 _ _ hD)
    obtain ⟨dx, t0, bs0, d0, qv, g1, g2, g3, g4, os0, g5, g6⟩ := hB.ex
    have hz5 : ∀ {z : Str} {os : List Ov}, OvSorted os (ovAll rs) → QuarAt rs os (.str z) → z.length ≤ 5 ∧ ∀ c ∈ cl z, c ∈ cl sg := fun {z os} h k => by
      obtain ⟨o, ho, rfl⟩ := quar_ov h k
      have h1 := ov_short (n := 3) (fun q hq => ⟨left_pos hg hq, (hok3 q hq).2⟩) ho
      exact ⟨by omega, (ov_over hok ho).2⟩
    have hz200 : ∀ z, (∃ os, OvSorted os (ovAll rs) ∧ QuarAt rs os (.str z)) → z.length ≤ 200 := fun z ⟨os, h1, h2⟩ => by
      have := (hz5 h1 h2).1; omega
    rcases (show qv = .non ∨ ∃ z, qv = .str z from by
      rcases g6 with ⟨e, _⟩ | ⟨k, o, _, _, _, e⟩
      · exact .inl e
      · exact .inr ⟨_, e⟩) with e | ⟨z, e⟩
    · subst e
      have hnil := hQ.nil hg g5 g6
      subst hnil
      refine Wp.cutQ (fun σ' H' => ∃ x dy m us, σ' = [some (.ref a0), some (.ref a), some (.str sg), some (.ref t), some (.ref D), none, some (.ref A), some (.ref p), some (.ref x), none, none, none] ∧ Same H6 H' ∧ H' x = some (.ins X dy (st4 (.bl true) (.ref m) .non .non)) ∧ H' m = some (.tup (tx us))) (fun nx hn => ?_) ?_
      · repeat walk_at "W"
        refine ⟨p, sg, rs, rfl, hB, hz200, fun os v k5 k6 => ⟨fun _ H7 x dy m os7 s7 _ hx hm _ => ?_, fun z e => ?_⟩⟩
        · repeat walk_at "W"
          have em : meetV rs os7 = tx (os7.map fun o => overP rs (cl o.1)) := by unfold meetV tx; rw [List.map_map]; rfl
          rw [em] at hm
          exact hn _ _ ⟨x, dy, m, _, rfl, s7, hx, hm⟩
        · rw [e] at k6
          cases quar_det g5 g6 k5 k6
      rintro σ' H7 ⟨x, dy, m, us, rfl, s7, hx, hm⟩
      have hA7 := s7 _ _ hA6
      repeat walk_at "W"
      refine Wp.truL (SqL.of hA7) ?_
      refine Wp.iteC (by simp [tx]) ?_
      have hB7 := hB.same s7
      refine Wp.cutQ (fun σ' H' => σ' = [some (.ref a0), some (.ref a), some (.str sg), some (.ref t), some (.ref D), none, some (.ref A), some (.ref p), some (.ref x), none, none, none] ∧ Same H7 H') (fun nx hn => ?_) ?_
      · refine Wp.ifs ?_
        refine Wp.cutT (fun b H' => b = false ∧ Same H7 H') (fun R hRR => ?_) ?_
        · repeat walk_at "W"
          refine ⟨.ref p, rfl, p, dx, _, rfl, s7 _ _ g1, p, dx, _, .non, rfl, s7 _ _ g1, bkF_quarrel _ _ _ _, ?_⟩
          repeat walk_at "W"
          refine ⟨x, X, dy, _, _, rfl, hx, TX.cl, TX.nH, st4_h _ _ _ _, ?_⟩
          repeat walk_at "W"
          refine .inr ⟨true, rfl, ?_⟩
          repeat walk_at "W"
          refine truO ?_
          repeat walk_at "W"
          refine ⟨x, dy, _, rfl, hx, x, dy, _, true, rfl, hx, st4_h _ _ _ _, true, rfl, ?_⟩
          repeat walk_at "W"
          exact hRR _ _ ⟨by simp, Same.refl _⟩
        · rintro b H8 ⟨rfl, s8⟩
          refine Wp.iteD Bool.false_ne_true ?_
          repeat walk_at "W"
          exact hn _ _ ⟨rfl, s8⟩
      rintro σ' H8 ⟨rfl, s8⟩
      repeat walk_at "W"
      refine ⟨x, X, dy, _, _, rfl, s8 _ _ hx, TX.cl, TX.nT, st4_t _ _ _ _, ?_⟩
      repeat walk_at "W"
      refine ⟨x, X, dy, _, _, rfl, s8 _ _ hx, TX.cl, TX.nE, st4_e _ _ _ _, ?_⟩
      repeat walk_at "W"
      refine ⟨x, X, dy, _, _, rfl, s8 _ _ hx, TX.cl, TX.nM, st4_m _ _ _ _, ?_⟩
      repeat walk_at "W"
      refine Wp.isi1 (b := true) (d := .tuple (txD us)) (.tup (SqT.of (s8 _ _ hm)) tx_dps) (by walk_at "KQ") ?_
      exact q _
    · subst e
      have hzo := hz5 g5 g6
      have hcz : (cl z).length ≤ 5 := by rw [len_cl]; exact hzo.1
      have hzU := hallU hzo.2 hcz
      have hdet : ∀ os v, OvSorted os (ovAll rs) → QuarAt rs os v → v = .str z := fun os v h k => quar_det h k g5 g6
      refine Wp.cutQ (fun σ' H' => ∃ x dy T us, σ' = [some (.ref a0), some (.ref a), some (.str sg), some (.ref t), some (.ref D), none, some (.ref A), some (.ref p), some (.ref x), none, none, none] ∧ Same H6 H' ∧ H' x = some (.ins X dy (st4 (.bl false) .non (.str z) (.ref T))) ∧ H' T = some (.tup (tx us)) ∧ EndL rs (cl z) us) (fun nx hn => ?_) ?_
      · repeat walk_at "W"
        refine ⟨p, sg, rs, rfl, hB, hz200, fun os v k5 k6 => ⟨fun e => ?_, fun z' e H7 x dy T us s7 _ hx hT hE => ?_⟩⟩
        · rw [e] at k6
          cases hdet _ _ k5 k6
        · rw [e] at k6
          cases hdet _ _ k5 k6
          repeat walk_at "W"
          exact hn _ _ ⟨x, dy, T, us, rfl, s7, hx, hT, quar_endL hg g5 g6 hE⟩
      rintro σ' H7 ⟨x, dy, T, us, rfl, s7, hx, hT, hEz⟩
      have hA7 := s7 _ _ hA6
      have hD7 := s7 _ _ hD6
      obtain ⟨r, hasc⟩ := hQ.head hg g5 g6 hzU hEz
      have hqne : qs ≠ [] := fun e => by
        have h1 : cl z ∈ asc qs := by rw [hasc]; exact List.mem_cons_self
        rw [asc_mem, e] at h1; cases h1
      repeat walk_at "W"
      refine Wp.truL (SqL.of hA7) ?_
      refine Wp.iteD (by cases hc : qs with
        | nil => exact absurd hc hqne
        | cons _ _ => simp [tx]) ?_
      refine Wp.nxt ?_
      with_reducible refine Wp.cutQ (fun σ' H' => σ' = [some (.ref a0), some (.ref a), some (.str sg), some (.ref t), some (.ref D), none, some (.ref A), some (.ref p), some (.ref x), some (.str z), none, none] ∧ Same H7 H') (fun nx hn => ?_) ?_
      · repeat walk_at "W"
        refine ⟨A, tx qs, tkey, rfl, rfl, SqL.of hA7, tkey_ok qs, fun v hv H8 s8 => ?_, fun H8 L' s8 hL' => ?_⟩
        · obtain ⟨y, hy, rfl⟩ := List.mem_map.mp hv
          have := (hin y ((hQ.mem y).mp hy).1).1
          exact ⟨mkS y, rfl, by rw [len_mk]; omega, fun T2 hT2 => ⟨Wp.same_upd hT2, .tup (SqT.of upd_same) (.cons (.int _) (.cons (.str _) .nil))⟩⟩
        · rw [byKey_tx, hasc]
          have uL := Wp.same_upd (o := .lst (tx (cl z :: r))) hL'
          repeat walk_at "W"
          refine Wp.ixl (SqL.of upd_same) (atI_nat (j := 0) rfl) ?_
          repeat walk_at "W"
          exact hn _ _ ⟨by show [_, _, _, _, _, _, _, _, _, some (V.str (mkS (cl z))), _, _] = _; rw [mk_cl], s8.trans uL⟩
      rintro σ' H8 ⟨rfl, s8⟩
      have hB8 := hB.same (s7.trans s8)
      have g18 := (s7.trans s8) _ _ g1
      have hx8 := s8 _ _ hx
      have hT8 := s8 _ _ hT
      have hD8 := s8 _ _ hD7
      have hzs : PyData.strOk z = true := str_shaped hmn hzo.2
      refine Wp.cutQ (fun σ' H' => σ' = [some (.ref a0), some (.ref a), some (.str sg), some (.ref t), some (.ref D), none, some (.ref A), some (.ref p), some (.ref x), some (.str z), none, none] ∧ Same H8 H') (fun nx hn => ?_) ?_
      · refine Wp.ifs ?_
        refine Wp.cutT (fun b H' => b = false ∧ Same H8 H') (fun R hRR => ?_) ?_
        · repeat walk_at "W"
          refine ⟨.ref p, rfl, p, dx, _, rfl, g18, p, dx, _, .str z, rfl, g18, bkF_quarrel _ _ _ _, ?_⟩
          repeat walk_at "W"
          refine .inl (Wp.reprS hzs (by omega) ?_)
          repeat walk_at "W"
          refine .inl (Wp.reprS hzs (by omega) ?_)
          repeat walk_at "W"
          refine ⟨x, X, dy, _, _, rfl, hx8, TX.cl, TX.nH, st4_h _ _ _ _, ?_⟩
          repeat walk_at "W"
          refine .inr ⟨false, rfl, ?_⟩
          repeat walk_at "W"
          refine truO ?_
          repeat walk_at "W"
          refine ⟨x, dy, _, rfl, hx8, x, dy, _, false, rfl, hx8, st4_h _ _ _ _, false, rfl, ?_⟩
          repeat walk_at "W"
          refine ⟨x, X, dy, _, _, rfl, hx8, TX.cl, TX.nM, st4_m _ _ _ _, ?_⟩
          repeat walk_at "W"
          exact hRR _ _ ⟨by simp, Same.refl _⟩
        · rintro b H9 ⟨rfl, s9⟩
          refine Wp.iteD Bool.false_ne_true ?_
          repeat walk_at "W"
          exact hn _ _ ⟨rfl, s9⟩
      rintro σ' H9 ⟨rfl, s9⟩
      have hD9 := s9 _ _ hD8
      have hT9 := s9 _ _ hT8
      have hx9 := s9 _ _ hx8
      have hB9 := hB8.same s9
      have hEs : ∀ u ∈ us, PyData.strOk (mkS u) = true ∧ u.length ≤ 5 := fun u hu => by
        have hst := ((hEz.mem u).mp hu).1
        have h1 := star_over hrs hst hzo.2
        have h2 := hst.le (rr_short hg)
        exact ⟨str_shaped hmn fun c hc => h1 c (by rw [cl_mk] at hc; exact hc), by omega⟩
      have hul : us.length ≤ 1458 := Nat.le_trans (nodup_le hEz.nd fun u hu => hallU (star_over hrs ((hEz.mem u).mp hu).1 hzo.2) (hEs u hu).2) hel
      have hshw := shw_tx hEs
      obtain ⟨iU, hiU, eU⟩ := List.getElem_of_mem hzU
      obtain ⟨L, es, f1, f2, f3, f4⟩ := hE.at_ iU (cl z) (by rw [List.getElem?_eq_getElem hiU, eU])
      rw [mk_cl] at f2
      have hes := f4.eq hEz
      subst hes
      have hL9 := s9 _ _ (s8 _ _ (s7 _ _ (s6 _ _ (s5 _ _ f3))))
      refine Wp.cutQ (fun σ' H' => σ' = [some (.ref a0), some (.ref a), some (.str sg), some (.ref t), some (.ref D), none, some (.ref A), some (.ref p), some (.ref x), some (.str z), none, none] ∧ Same H9 H') (fun nx hn => ?_) ?_
      · refine Wp.ifs ?_
        refine Wp.cutT (fun b H' => b = false ∧ Same H9 H') (fun R hRR => ?_) ?_
        · repeat walk_at "W"
          refine ⟨x, X, dy, _, _, rfl, hx9, TX.cl, TX.nT, st4_t _ _ _ _, ?_⟩
          repeat walk_at "W"
          refine .inl (Wp.reprS hzs (by omega) ?_)
          repeat walk_at "W"
          refine .inl (Wp.reprS hzs (by omega) ?_)
          repeat walk_at "W"
          refine ⟨x, X, dy, _, _, rfl, hx9, TX.cl, TX.nE, st4_e _ _ _ _, ?_⟩
          repeat walk_at "W"
          refine .inl (Wp.reprD (.tup (SqT.of hT9) tx_dps) hshw (by omega) (by omega) ?_)
          repeat walk_at "W"
          refine Wp.dK_get hD9 f2 ?_
          repeat walk_at "W"
          refine Wp.tupL (SqL.of hL9) fun t2 ht2 => ?_
          have u1 := Wp.same_upd (o := .tup (tx es)) ht2
          have v1 := upd_same (H := H9) (a := t2) (o := .tup (tx es))
          generalize upd H9 t2 (.tup (tx es)) = G1 at u1 v1 ⊢
          refine .inl (Wp.reprD (.tup (SqT.of v1) tx_dps) hshw (by omega) (by omega) ?_)
          repeat walk_at "W"
          exact hRR _ _ ⟨by simp, u1⟩
        · rintro b H10 ⟨rfl, s10⟩
          refine Wp.iteD Bool.false_ne_true ?_
          repeat walk_at "W"
          exact hn _ _ ⟨rfl, s10⟩
      rintro σ' H10 ⟨rfl, s10⟩
      have hB10 := hB9.same s10
      repeat walk_at "W"
      refine ⟨4, rfl, by omega, by omega, ?_⟩
      refine Wp.forIt walk_range (fun i σ1 G => ∃ x10, σ1 = [some (.ref a0), some (.ref a), some (.str sg), some (.ref t), some (.ref D), none, some (.ref A), some (.ref p), some (.ref x), some (.str z), x10, none] ∧ Same H10 G) ⟨_, rfl, Same.refl _⟩ (fun _ _ _ _ _ => trivial) ?_ ?_
      · rintro i y σ1 G G' hi ⟨x10, rfl, s11⟩ ⟨rfl, hy⟩
        obtain rfl : y = .int (i : Nat) := by rw [hy]; exact congrArg V.int (by omega)
        have hB11 := hB10.same s11
        repeat walk_at "W"
        refine Wp.itd (fun e0 => ?_) (fun e0 => ?_)
        · repeat walk_at "W"
          refine makeS ?_
          repeat walk_at "W"
          intro xL dL hxL hdL hne
          have sL : Same G' (upd (upd G' dL (.own xL)) xL (.ins CL dL [])) := fun b o e => by rw [upd_ne (ne_of_none e hxL), upd_ne (ne_of_none e hdL)]; exact e
          refine ⟨.ref xL, p, .non, sg, rs, z, rfl, hB11.same sL, hdet, fun dd H' h1 s1 h3 => ⟨true, TN.te, fun _ a1 ha1 => ?_, fun q => Bool.noConfusion q⟩⟩
          have sB := sL.trans s1
          repeat walk_at "W"
          refine ⟨_, rfl, rfl, rfl, dd, _, _, rfl, h3, rfl, ?_⟩
          repeat walk_at "W"
          refine .inl (Wp.reprS hzs (by omega) ?_)
          repeat walk_at "W"
          refine .inl (Wp.reprS hzs (by omega) ?_)
          repeat walk_at "W"
          refine ⟨.ref CR, .ref CR, true, rfl, rfl, fun u h => h, iNR, ⟨dd, _, rfl, h3⟩, ?_⟩
          repeat walk_at "W"
          exact ⟨_, rfl, s11.trans sB⟩
        repeat walk_at "W"
        refine Wp.itd (fun e1 => ?_) (fun e1 => ?_)
        · repeat walk_at "W"
          refine ⟨.non, p, .non, sg, rs, z, rfl, hB11, hdet, fun dd H' h1 sB h3 => ⟨true, TN.te, fun _ a1 ha1 => ?_, fun q => Bool.noConfusion q⟩⟩
          repeat walk_at "W"
          refine ⟨_, rfl, rfl, rfl, dd, _, _, rfl, h3, rfl, ?_⟩
          repeat walk_at "W"
          refine .inl (Wp.reprS hzs (by omega) ?_)
          repeat walk_at "W"
          refine .inl (Wp.reprS hzs (by omega) ?_)
          repeat walk_at "W"
          refine ⟨.ref CR, .ref CR, true, rfl, rfl, fun u h => h, iNR, ⟨dd, _, rfl, h3⟩, ?_⟩
          repeat walk_at "W"
          exact ⟨_, rfl, s11.trans sB⟩
        repeat walk_at "W"
        refine Wp.itd (fun e2 => ?_) (fun e2 => ?_)
        · repeat walk_at "W"
          refine ⟨.non, p, .non, sg, rs, z, rfl, hB11, hdet, fun dd H' h1 sB h3 => ⟨true, TN.te, fun _ a1 ha1 => ?_, fun q => Bool.noConfusion q⟩⟩
          repeat walk_at "W"
          refine ⟨_, rfl, rfl, rfl, dd, _, _, rfl, h3, rfl, ?_⟩
          repeat walk_at "W"
          refine .inl (Wp.reprS hzs (by omega) ?_)
          repeat walk_at "W"
          refine .inl (Wp.reprS hzs (by omega) ?_)
          repeat walk_at "W"
          refine ⟨.ref CR, .ref CR, true, rfl, rfl, fun u h => h, iNR, ⟨dd, _, rfl, h3⟩, ?_⟩
          repeat walk_at "W"
          exact ⟨_, rfl, s11.trans sB⟩
        · repeat walk_at "W"
          refine ⟨.non, p, .non, sg, rs, z, rfl, hB11, hdet, fun dd H' h1 sB h3 => ⟨true, TN.te, fun _ a1 ha1 => ?_, fun q => Bool.noConfusion q⟩⟩
          repeat walk_at "W"
          refine ⟨_, rfl, rfl, rfl, dd, _, _, rfl, h3, rfl, ?_⟩
          repeat walk_at "W"
          refine .inl (Wp.reprS hzs (by omega) ?_)
          repeat walk_at "W"
          refine .inl (Wp.reprS hzs (by omega) ?_)
          repeat walk_at "W"
          refine ⟨.ref CR, .ref CR, true, rfl, rfl, fun u h => h, iNR, ⟨dd, _, rfl, h3⟩, ?_⟩
          repeat walk_at "W"
          exact ⟨_, rfl, s11.trans sB⟩
      · rintro σ1 G ⟨x10, rfl, s11⟩
        repeat walk_at "W"
        exact q _
end
end K09
set_option Elab.async false
set_option linter.all false
set_option maxRecDepth 100000
namespace Hd
open PySem PySem.W PySem.Calls PyProof.Rows HeadRun
theorem fal {P : Prop} (h : False) : P := h.elim
theorem put {P : Prop} (f : False) (g : False → P) : P := g f
theorem split3 {S A B C : Type} {e : Option S} {f : S → A} {g : S → B} {h : S → C} {a : A} {b : B} {c : C} (h1 : e.map f = some a) (h2 : e.map g = some b) (h3 : e.map h = some c) : e.map (fun s => (f s, g s, h s)) = some (a, b, c) := by
  cases e with
  | none => cases h1
  | some s => cases h1; cases h2; cases h3; rfl
section
local macro_rules | `(tactic| kernel_rfl) => `(tactic| exact Hd.fal (by assumption))
local macro_rules | `(tactic| decide +kernel) => `(tactic| exact Hd.fal (by assumption))
local macro_rules | `(tactic| k_head) => `(tactic| (rename_i sd; clear sd; refine Hd.put ?f fun hF => ?g; rotate_left; k_headL; case hc => exact Hd.fal ?f))
set_option maxHeartbeats 0
open_top pre for PySem.Challenge.rw_shrunkalike_k09_whole_settled
end
noncomputable abbrev pg : Program := PySem.Challenge.pw_shrunkalike_k09_whole_settled
noncomputable abbrev vw : Program := view pg [121]
noncomputable abbrev lo : List PySem.Str := [PySem.Str.ofString "_wall", PySem.Str.ofString "ShrunkError", PySem.Str.ofString "WrongThing", PySem.Str.ofString "BadSigns", PySem.Str.ofString "BadText", PySem.Str.ofString "BadNumber", PySem.Str.ofString "WrongItem", PySem.Str.ofString "BadAutomaton", PySem.Str.ofString "BadRule", PySem.Str.ofString "NotSettled", PySem.Str.ofString "Unlike", PySem.Str.ofString "TooMany", PySem.Str.ofString "MOST_SIGNS", PySem.Str.ofString "LONGEST_TEXT", PySem.Str.ofString "MOST_STATES", PySem.Str.ofString "MOST_EDGES", PySem.Str.ofString "MOST_RULES", PySem.Str.ofString "LONGEST_LEFT", PySem.Str.ofString "LONGEST_RIGHT", PySem.Str.ofString "is_whole", PySem.Str.ofString "is_row", PySem.Str.ofString "is_between", PySem.Str.ofString "ascending_texts", PySem.Str.ofString "is_text", PySem.Str.ofString "checked_signs", PySem.Str.ofString "checked_text", PySem.Str.ofString "checked_number", PySem.Str.ofString "is_edge", PySem.Str.ofString "automaton_of", PySem.Str.ofString "edges_of", PySem.Str.ofString "ends_of", PySem.Str.ofString "is_rule", PySem.Str.ofString "rules_of", PySem.Str.ofString "first_rights", PySem.Str.ofString "numbers_of", PySem.Str.ofString "first_fit", PySem.Str.ofString "left_over", PySem.Str.ofString "left_of_all", PySem.Str.ofString "used", PySem.Str.ofString "overlap_text"] ++ [PySem.Str.ofString "overlaps_of", PySem.Str.ofString "steps_of", PySem.Str.ofString "quarrel_of", PySem.Str.ofString "ends_of_quarrel", PySem.Str.ofString "Book", PySem.Str.ofString "checked_book", PySem.Str.ofString "over", PySem.Str.ofString "Settled", PySem.Str.ofString "settled", PySem.Str.ofString "has_proper_piece", PySem.Str.ofString "least_rules", PySem.Str.ofString "least_book", PySem.Str.ofString "MOST_KEPT_STATES", PySem.Str.ofString "preceding", PySem.Str.ofString "struck", PySem.Str.ofString "apart", PySem.Str.ofString "blocks_of", PySem.Str.ofString "numbered", PySem.Str.ofString "smallest", PySem.Str.ofString "kept", PySem.Str.ofString "bits", PySem.Str.ofString "mask_of", PySem.Str.ofString "united", PySem.Str.ofString "leading_mask", PySem.Str.ofString "trimmed", PySem.Str.ofString "prefixes_of", PySem.Str.ofString "ends_in", PySem.Str.ofString "piece_table", PySem.Str.ofString "spread", PySem.Str.ofString "spread_within", PySem.Str.ofString "smallest_of_machine", PySem.Str.ofString "least_of_machine", PySem.Str.ofString "long_halves", PySem.Str.ofString "kinds_of", PySem.Str.ofString "joins_of", PySem.Str.ofString "grammar_of", PySem.Str.ofString "seeds", PySem.Str.ofString "outcome", PySem.Str.ofString "closed_rows", PySem.Str.ofString "closed_machine"] ++ [PySem.Str.ofString "row_of", PySem.Str.ofString "leaving", PySem.Str.ofString "next_states", PySem.Str.ofString "first_place", PySem.Str.ofString "is_read", PySem.Str.ofString "is_wanted", PySem.Str.ofString "goes_on", PySem.Str.ofString "pairs_of", PySem.Str.ofString "longer", PySem.Str.ofString "least_words", PySem.Str.ofString "count_of_size", PySem.Str.ofString "NO_TEXT", PySem.Str.ofString "LONGEST_COUNTED", PySem.Str.ofString "Lot", PySem.Str.ofString "meanings_of", PySem.Str.ofString "kept_lot", PySem.Str.ofString "check_alike", PySem.Str.ofString "put_together", PySem.Str.ofString "whole", PySem.Str.ofString "meaning", PySem.Str.ofString "_law_source", PySem.Str.ofString "_law_pick", PySem.Str.ofString "_law_signs", PySem.Str.ofString "_law_key", PySem.Str.ofString "_law_rule", PySem.Str.ofString "_law_ends", PySem.Str.ofString "_law_texts", PySem.Str.ofString "_law_drawn", PySem.Str.ofString "_law_all_ends"]
def asL : List Addr := [2, 3, 15, 17, 18, 20, 21, 22, 29, 30, 31, 32, 35, 42, 44, 45, 47, 48, 49, 50, 51, 54, 61, 62, 63, 66, 73, 74, 75, 78, 85, 86, 87, 90, 97, 99, 100, 102, 103, 104, 105, 106, 109, 116, 117, 118, 121, 128, 129, 130, 133, 140, 142, 143, 145, 146, 147, 148, 149, 152, 159, 161, 162, 164, 165, 166, 167, 168, 171, 178, 180, 181, 183, 184, 185, 186, 187, 190, 192, 193, 195, 196, 197, 199, 200, 202, 203, 204, 206, 207, 209, 210, 211, 214, 215, 216, 219, 220, 221, 223, 224, 226, 227, 228, 230, 231, 233, 234, 235, 237, 238, 240, 241, 242, 244, 245, 247, 248, 249, 251, 252, 254, 255, 256, 258, 259, 261, 262, 263, 265, 266, 268, 269, 270, 272, 273, 275, 276, 277, 279, 280, 282, 283, 284, 286, 287, 289, 290, 291, 293, 294, 296, 297, 298, 300, 301, 303, 304, 305, 307, 308, 310, 311, 312, 314, 315, 317, 318, 319, 321, 322, 324, 325, 326, 328, 329, 331, 332, 333, 336, 337, 338, 341, 342, 343, 345, 346, 348, 349, 350, 352, 353, 355, 356, 364, 366, 367, 369, 370, 371, 373, 374, 376, 377, 378, 379, 381, 382, 384, 385, 386, 388, 389, 391, 392, 393, 395, 396, 398, 399, 400, 402, 403, 405, 406, 407, 409, 410, 412, 413, 414, 415, 416, 417, 418, 421, 423, 424, 426, 427, 428, 430, 431, 433, 434, 442, 444, 445, 447, 448, 449, 451, 452, 454, 455, 456, 457, 458, 459, 460, 463, 466, 467, 468, 470, 471, 473, 474, 475, 478, 479, 480, 482, 483, 485, 486, 487, 490, 491, 492, 494, 495, 497, 498, 499, 502, 503, 504, 507, 508, 509, 512, 513, 514, 516, 517, 519, 520, 521, 523, 524, 526, 527, 528, 530, 531, 533, 534, 535, 537, 538, 540, 541, 542, 544, 545, 547, 548, 549, 551, 552, 554, 555, 556, 559, 560, 561, 563, 564, 566, 567, 568, 570, 571, 573, 574, 575, 578, 579, 580, 582, 583, 585, 586, 587, 590, 591, 592, 594, 595, 597, 598, 599, 601, 602, 604, 605, 606, 608, 609, 611, 612, 613, 616, 617, 618, 620, 621, 623, 624, 625, 628, 629, 630, 633, 634, 635, 638, 639, 640, 642, 643, 645, 646, 647, 649, 650, 652, 653, 654, 657, 658, 659, 662, 663, 664, 666, 667, 669, 670, 671, 673, 674, 676, 677, 678, 680, 681, 683, 684, 685, 687, 688, 690, 691, 692, 694, 695, 697, 698, 699, 702, 703, 704, 706, 707, 709, 710, 711, 714, 715, 716, 719, 720, 721, 722, 723, 731, 733, 734, 736, 737, 738, 740, 741, 743, 744, 745, 747, 748, 750, 751, 752, 754, 755, 757, 758, 759, 761, 762, 764, 765, 766, 768, 769, 771, 772, 773, 775, 776, 778, 779, 780, 782, 783, 785, 786, 787, 789, 790, 792, 793, 794, 796, 797, 799, 800, 801, 803, 804, 806, 807, 808, 809, 810, 811, 812, 815, 817, 818, 820, 821, 822, 824, 825, 827, 828, 829, 831, 832, 834, 835, 836, 838, 839, 841, 842, 843, 845, 846, 848, 849, 850, 852, 853, 855, 856, 857, 859, 860, 862, 863, 864, 866, 867, 869, 870, 871, 873, 874, 876, 877, 878, 880, 881, 883, 884, 885, 888, 889, 890, 893, 894, 895, 897, 898, 900, 901, 902, 904, 905, 907, 908, 909, 911, 912, 914, 915, 916, 919, 920]
theorem keys : ∀ P, asL = (Hd.pre.heap_39 P).map (·.1) := fun _ => by kernel_rfl
noncomputable abbrev ends (w : World) (os : OsState) : Option SharedT := endF (stepQ (denQ tabQ) pg w) 13498 pg w os
set_option maxHeartbeats 0 in
theorem evL (w : World) (os : OsState) : (ends w os).map (fun s => looksF pg (boot_heap w.params) s.abs) = some true := by kernel_rfl
set_option maxHeartbeats 0 in
theorem evS (w : World) (os : OsState) : (ends w os).map (fun s => seenQ vw lo (importedModules pg.main.body) (fun s => xlAt vw [] s && recOk (RowW.records (OpenRow.toRowW (OpenLaw.row PySem.Challenge.rw_shrunkalike_k09_whole_settled))) s) s.abs) = some (openGood vw lo) := by kernel_rfl
set_option maxHeartbeats 0 in
theorem evK (w : World) (os : OsState) : (ends w os).map (fun s => asL.map (getT s)) = some ((Hd.pre.heap_39 w.params).map fun x => some x.2) := by kernel_rfl
set_option maxHeartbeats 0 in
theorem left : LeftO pg vw lo (fun s => xlAt vw [] s && recOk (RowW.records (OpenRow.toRowW (OpenLaw.row PySem.Challenge.rw_shrunkalike_k09_whole_settled))) s) (Hook.obs (kHook Hd.pre.heap_39 asL keys)) (Hook.val (kHook Hd.pre.heap_39 asL keys)) 14198 true :=
  left_oneK (M := 13498) (by kernel_rfl) (by rfl) (fun s => by kernel_rfl) (by rfl) fun w os => split3 (evL w os) (evS w os) (evK w os)
end Hd
set_option Elab.async false
set_option linter.all false
set_option maxRecDepth 100000
namespace Wp
open PySem PySem.Spec PyProof.Rows L2
theorem kitCls_of {K : PySem.W.Frag} {D C : Addr} {v : Bool} (h2 : PySem.W.isClsIn K C = true) (h3 : PySem.W.typeIn K (.ref C) = some (.type "type")) (s : PySem.W.subIn K (.ref D) (.ref C) = some v) : PySem.W.kitCls K (.ref D) (.ref C) = some v := by
  have h2' : (PySem.W.clsIn K C).isSome = true := h2
  show (if ((PySem.W.clsIn K C).isSome && PySem.W.typeIn K (.ref C) == some (.type "type")) = true then PySem.W.subIn K (.ref D) (.ref C) else none) = some v
  rw [h2', h3, if_pos (by rfl)]
  exact s
theorem kit_of {K : PySem.W.Frag} {D C : Addr} {v : Bool} (h2 : PySem.W.isClsIn K C = true) (h3 : PySem.W.typeIn K (.ref C) = some (.type "type")) (s : PySem.W.subIn K (.ref D) (.ref C) = some v) (self : PySem.W.subIn K (.ref D) (.ref D) = some true) : PySem.W.kitOne K (.ref D) (.ref C) = some v := by
  show (if (Value.ref D == Value.ref C) = true then some true else PySem.W.kitCls K (.ref D) (.ref C)) = some v
  by_cases h : (Value.ref D == Value.ref C) = true
  · rw [if_pos h]
    have e : D = C := by
      have z : Value.ref D = Value.ref C := eq_of_beq h
      cases z; rfl
    subst e
    exact self.symm.trans s
  · rw [if_neg h]; exact kitCls_of h2 h3 s
theorem exm_of {K : PySem.W.Frag} {S : Addr} (h1 : PySem.W.subIn K (.ref S) (.type "BaseException") = some true) (h2 : PySem.W.isClsIn K S = true) (h3 : PySem.W.typeIn K (.ref S) = some (.type "type")) (h4 : PySem.W.subIn K (.ref S) (.ref S) = some true) : PySem.W.exmOne K (.ref S) (.ref S) = some true := by
  show (if (PySem.W.subIn K (.ref S) (.type "BaseException") == some true) = true then PySem.W.kitCls K (.ref S) (.ref S) else none) = some true
  rw [h1, if_pos (by rfl)]
  exact kitCls_of h2 h3 h4
end Wp
namespace K09
open PySem PySem.Spec PyProof.Rows L2 Bk
section
set_option maxHeartbeats 0 in
theorem all_mk {l : PySem.W.OpenLaw} {w : World} {K : PySem.W.Frag} {h : Heap} {mg : Str → Option Value} {fa : Addr} (X : K.In h) (G : h.Ns mainGlobals mg) (hfa : mg "law" = some (.ref fa))
    {f1 : Addr} {od1 an1 : Option Addr} {sl1 : Array (Option Value)} {oc1 kV1 dc1 pm1 cd1 ct1 : Value}
    (a1 : PySem.W.nsIn K mainGlobals "is_row" = some (some (.ref f1)))
    (l1 : K.lookup f1 = some ⟨oc1, od1, .func (PySem.W.fnOf "is_row" "is_row" (defArgs s_is_row) (defBody s_is_row) (defScope s_is_row) .none kV1 dc1 pm1 an1 cd1 ct1), sl1⟩)
    (c1 : PySem.W.codeIn K cd1 "is_row" = true)
    (k1 : PySem.W.keepIn K (.ref f1) = true)
    {f2 : Addr} {od2 an2 : Option Addr} {sl2 : Array (Option Value)} {oc2 kV2 dc2 pm2 cd2 ct2 : Value}
    (a2 : PySem.W.nsIn K mainGlobals "ascending_texts" = some (some (.ref f2)))
    (l2 : K.lookup f2 = some ⟨oc2, od2, .func (PySem.W.fnOf "ascending_texts" "ascending_texts" (defArgs s_ascending_texts) (defBody s_ascending_texts) (defScope s_ascending_texts) .none kV2 dc2 pm2 an2 cd2 ct2), sl2⟩)
    (c2 : PySem.W.codeIn K cd2 "ascending_texts" = true)
    (k2 : PySem.W.keepIn K (.ref f2) = true)
    {f3 : Addr} {od3 an3 : Option Addr} {sl3 : Array (Option Value)} {oc3 kV3 dc3 pm3 cd3 ct3 : Value}
    (a3 : PySem.W.nsIn K mainGlobals "is_text" = some (some (.ref f3)))
    (l3 : K.lookup f3 = some ⟨oc3, od3, .func (PySem.W.fnOf "is_text" "is_text" (defArgs s_is_text) (defBody s_is_text) (defScope s_is_text) .none kV3 dc3 pm3 an3 cd3 ct3), sl3⟩)
    (c3 : PySem.W.codeIn K cd3 "is_text" = true)
    (k3 : PySem.W.keepIn K (.ref f3) = true)
    {f4 : Addr} {od4 an4 : Option Addr} {sl4 : Array (Option Value)} {oc4 kV4 dc4 pm4 cd4 ct4 : Value}
    (a4 : PySem.W.nsIn K mainGlobals "checked_signs" = some (some (.ref f4)))
    (l4 : K.lookup f4 = some ⟨oc4, od4, .func (PySem.W.fnOf "checked_signs" "checked_signs" (defArgs s_checked_signs) (defBody s_checked_signs) (defScope s_checked_signs) .none kV4 dc4 pm4 an4 cd4 ct4), sl4⟩)
    (c4 : PySem.W.codeIn K cd4 "checked_signs" = true)
    (k4 : PySem.W.keepIn K (.ref f4) = true)
    {f5 : Addr} {od5 an5 : Option Addr} {sl5 : Array (Option Value)} {oc5 kV5 dc5 pm5 cd5 ct5 : Value}
    (a5 : PySem.W.nsIn K mainGlobals "is_rule" = some (some (.ref f5)))
    (l5 : K.lookup f5 = some ⟨oc5, od5, .func (PySem.W.fnOf "is_rule" "is_rule" (defArgs s_is_rule) (defBody s_is_rule) (defScope s_is_rule) .none kV5 dc5 pm5 an5 cd5 ct5), sl5⟩)
    (c5 : PySem.W.codeIn K cd5 "is_rule" = true)
    (k5 : PySem.W.keepIn K (.ref f5) = true)
    {f6 : Addr} {od6 an6 : Option Addr} {sl6 : Array (Option Value)} {oc6 kV6 dc6 pm6 cd6 ct6 : Value}
    (a6 : PySem.W.nsIn K mainGlobals "rules_of" = some (some (.ref f6)))
    (l6 : K.lookup f6 = some ⟨oc6, od6, .func (PySem.W.fnOf "rules_of" "rules_of" (defArgs s_rules_of) (defBody s_rules_of) (defScope s_rules_of) .none kV6 dc6 pm6 an6 cd6 ct6), sl6⟩)
    (c6 : PySem.W.codeIn K cd6 "rules_of" = true)
    (k6 : PySem.W.keepIn K (.ref f6) = true)
    {f7 : Addr} {od7 an7 : Option Addr} {sl7 : Array (Option Value)} {oc7 kV7 dc7 pm7 cd7 ct7 : Value}
    (a7 : PySem.W.nsIn K mainGlobals "first_rights" = some (some (.ref f7)))
    (l7 : K.lookup f7 = some ⟨oc7, od7, .func (PySem.W.fnOf "first_rights" "first_rights" (defArgs s_first_rights) (defBody s_first_rights) (defScope s_first_rights) .none kV7 dc7 pm7 an7 cd7 ct7), sl7⟩)
    (c7 : PySem.W.codeIn K cd7 "first_rights" = true)
    (k7 : PySem.W.keepIn K (.ref f7) = true)
    {f8 : Addr} {od8 an8 : Option Addr} {sl8 : Array (Option Value)} {oc8 kV8 dc8 pm8 cd8 ct8 : Value}
    (a8 : PySem.W.nsIn K mainGlobals "numbers_of" = some (some (.ref f8)))
    (l8 : K.lookup f8 = some ⟨oc8, od8, .func (PySem.W.fnOf "numbers_of" "numbers_of" (defArgs s_numbers_of) (defBody s_numbers_of) (defScope s_numbers_of) .none kV8 dc8 pm8 an8 cd8 ct8), sl8⟩)
    (c8 : PySem.W.codeIn K cd8 "numbers_of" = true)
    (k8 : PySem.W.keepIn K (.ref f8) = true)
    {f9 : Addr} {od9 an9 : Option Addr} {sl9 : Array (Option Value)} {oc9 kV9 dc9 pm9 cd9 ct9 : Value}
    (a9 : PySem.W.nsIn K mainGlobals "first_fit" = some (some (.ref f9)))
    (l9 : K.lookup f9 = some ⟨oc9, od9, .func (PySem.W.fnOf "first_fit" "first_fit" (defArgs s_first_fit) (defBody s_first_fit) (defScope s_first_fit) .none kV9 dc9 pm9 an9 cd9 ct9), sl9⟩)
    (c9 : PySem.W.codeIn K cd9 "first_fit" = true)
    (k9 : PySem.W.keepIn K (.ref f9) = true)
    {f10 : Addr} {od10 an10 : Option Addr} {sl10 : Array (Option Value)} {oc10 kV10 dc10 pm10 cd10 ct10 : Value}
    (a10 : PySem.W.nsIn K mainGlobals "left_over" = some (some (.ref f10)))
    (l10 : K.lookup f10 = some ⟨oc10, od10, .func (PySem.W.fnOf "left_over" "left_over" (defArgs s_left_over) (defBody s_left_over) (defScope s_left_over) .none kV10 dc10 pm10 an10 cd10 ct10), sl10⟩)
    (c10 : PySem.W.codeIn K cd10 "left_over" = true)
    (k10 : PySem.W.keepIn K (.ref f10) = true)
    {f11 : Addr} {od11 an11 : Option Addr} {sl11 : Array (Option Value)} {oc11 kV11 dc11 pm11 cd11 ct11 : Value}
    (a11 : PySem.W.nsIn K mainGlobals "left_of_all" = some (some (.ref f11)))
    (l11 : K.lookup f11 = some ⟨oc11, od11, .func (PySem.W.fnOf "left_of_all" "left_of_all" (defArgs s_left_of_all) (defBody s_left_of_all) (defScope s_left_of_all) .none kV11 dc11 pm11 an11 cd11 ct11), sl11⟩)
    (c11 : PySem.W.codeIn K cd11 "left_of_all" = true)
    (k11 : PySem.W.keepIn K (.ref f11) = true)
    {f12 : Addr} {od12 an12 : Option Addr} {sl12 : Array (Option Value)} {oc12 kV12 dc12 pm12 cd12 ct12 : Value}
    (a12 : PySem.W.nsIn K mainGlobals "used" = some (some (.ref f12)))
    (l12 : K.lookup f12 = some ⟨oc12, od12, .func (PySem.W.fnOf "used" "used" (defArgs s_used) (defBody s_used) (defScope s_used) .none kV12 dc12 pm12 an12 cd12 ct12), sl12⟩)
    (c12 : PySem.W.codeIn K cd12 "used" = true)
    (k12 : PySem.W.keepIn K (.ref f12) = true)
    {f13 : Addr} {od13 an13 : Option Addr} {sl13 : Array (Option Value)} {oc13 kV13 dc13 pm13 cd13 ct13 : Value}
    (a13 : PySem.W.nsIn K mainGlobals "overlap_text" = some (some (.ref f13)))
    (l13 : K.lookup f13 = some ⟨oc13, od13, .func (PySem.W.fnOf "overlap_text" "overlap_text" (defArgs s_overlap_text) (defBody s_overlap_text) (defScope s_overlap_text) .none kV13 dc13 pm13 an13 cd13 ct13), sl13⟩)
    (c13 : PySem.W.codeIn K cd13 "overlap_text" = true)
    (k13 : PySem.W.keepIn K (.ref f13) = true)
    {f14 : Addr} {od14 an14 : Option Addr} {sl14 : Array (Option Value)} {oc14 kV14 dc14 pm14 cd14 ct14 : Value}
    (a14 : PySem.W.nsIn K mainGlobals "overlaps_of" = some (some (.ref f14)))
    (l14 : K.lookup f14 = some ⟨oc14, od14, .func (PySem.W.fnOf "overlaps_of" "overlaps_of" (defArgs s_overlaps_of) (defBody s_overlaps_of) (defScope s_overlaps_of) .none kV14 dc14 pm14 an14 cd14 ct14), sl14⟩)
    (c14 : PySem.W.codeIn K cd14 "overlaps_of" = true)
    (k14 : PySem.W.keepIn K (.ref f14) = true)
    {f15 : Addr} {od15 an15 : Option Addr} {sl15 : Array (Option Value)} {oc15 kV15 dc15 pm15 cd15 ct15 : Value}
    (a15 : PySem.W.nsIn K mainGlobals "steps_of" = some (some (.ref f15)))
    (l15 : K.lookup f15 = some ⟨oc15, od15, .func (PySem.W.fnOf "steps_of" "steps_of" (defArgs s_steps_of) (defBody s_steps_of) (defScope s_steps_of) .none kV15 dc15 pm15 an15 cd15 ct15), sl15⟩)
    (c15 : PySem.W.codeIn K cd15 "steps_of" = true)
    (k15 : PySem.W.keepIn K (.ref f15) = true)
    {f16 : Addr} {od16 an16 : Option Addr} {sl16 : Array (Option Value)} {oc16 kV16 dc16 pm16 cd16 ct16 : Value}
    (a16 : PySem.W.nsIn K mainGlobals "quarrel_of" = some (some (.ref f16)))
    (l16 : K.lookup f16 = some ⟨oc16, od16, .func (PySem.W.fnOf "quarrel_of" "quarrel_of" (defArgs s_quarrel_of) (defBody s_quarrel_of) (defScope s_quarrel_of) .none kV16 dc16 pm16 an16 cd16 ct16), sl16⟩)
    (c16 : PySem.W.codeIn K cd16 "quarrel_of" = true)
    (k16 : PySem.W.keepIn K (.ref f16) = true)
    {f17 : Addr} {od17 an17 : Option Addr} {sl17 : Array (Option Value)} {oc17 kV17 dc17 pm17 cd17 ct17 : Value}
    (a17 : PySem.W.nsIn K mainGlobals "ends_of_quarrel" = some (some (.ref f17)))
    (l17 : K.lookup f17 = some ⟨oc17, od17, .func (PySem.W.fnOf "ends_of_quarrel" "ends_of_quarrel" (defArgs s_ends_of_quarrel) (defBody s_ends_of_quarrel) (defScope s_ends_of_quarrel) .none kV17 dc17 pm17 an17 cd17 ct17), sl17⟩)
    (c17 : PySem.W.codeIn K cd17 "ends_of_quarrel" = true)
    (k17 : PySem.W.keepIn K (.ref f17) = true)
    {f18 : Addr} {od18 an18 : Option Addr} {sl18 : Array (Option Value)} {oc18 kV18 dc18 pm18 cd18 ct18 : Value}
    (a18 : PySem.W.nsIn K mainGlobals "checked_book" = some (some (.ref f18)))
    (l18 : K.lookup f18 = some ⟨oc18, od18, .func (PySem.W.fnOf "checked_book" "checked_book" (defArgs s_checked_book) (defBody s_checked_book) (defScope s_checked_book) .none kV18 dc18 pm18 an18 cd18 ct18), sl18⟩)
    (c18 : PySem.W.codeIn K cd18 "checked_book" = true)
    (k18 : PySem.W.keepIn K (.ref f18) = true)
    {f19 : Addr} {od19 an19 : Option Addr} {sl19 : Array (Option Value)} {oc19 kV19 dc19 pm19 cd19 ct19 : Value}
    (a19 : PySem.W.nsIn K mainGlobals "settled" = some (some (.ref f19)))
    (l19 : K.lookup f19 = some ⟨oc19, od19, .func (PySem.W.fnOf "settled" "settled" (defArgs s_settled) (defBody s_settled) (defScope s_settled) .none kV19 dc19 pm19 an19 cd19 ct19), sl19⟩)
    (c19 : PySem.W.codeIn K cd19 "settled" = true)
    (k19 : PySem.W.keepIn K (.ref f19) = true)
    {f20 : Addr} {od20 an20 : Option Addr} {sl20 : Array (Option Value)} {oc20 kV20 dc20 pm20 cd20 ct20 : Value}
    (a20 : PySem.W.nsIn K mainGlobals "least_rules" = some (some (.ref f20)))
    (l20 : K.lookup f20 = some ⟨oc20, od20, .func (PySem.W.fnOf "least_rules" "least_rules" (defArgs s_least_rules) (defBody s_least_rules) (defScope s_least_rules) .none kV20 dc20 pm20 an20 cd20 ct20), sl20⟩)
    (c20 : PySem.W.codeIn K cd20 "least_rules" = true)
    (k20 : PySem.W.keepIn K (.ref f20) = true)
    {f21 : Addr} {od21 an21 : Option Addr} {sl21 : Array (Option Value)} {oc21 kV21 dc21 pm21 cd21 ct21 : Value}
    (a21 : PySem.W.nsIn K mainGlobals "least_book" = some (some (.ref f21)))
    (l21 : K.lookup f21 = some ⟨oc21, od21, .func (PySem.W.fnOf "least_book" "least_book" (defArgs s_least_book) (defBody s_least_book) (defScope s_least_book) .none kV21 dc21 pm21 an21 cd21 ct21), sl21⟩)
    (c21 : PySem.W.codeIn K cd21 "least_book" = true)
    (k21 : PySem.W.keepIn K (.ref f21) = true)
    {f22 : Addr} {od22 an22 : Option Addr} {sl22 : Array (Option Value)} {oc22 kV22 dc22 pm22 cd22 ct22 : Value}
    (a22 : PySem.W.nsIn K mainGlobals "whole" = some (some (.ref f22)))
    (l22 : K.lookup f22 = some ⟨oc22, od22, .func (PySem.W.fnOf "whole" "whole" (defArgs s_whole) (defBody s_whole) (defScope s_whole) .none kV22 dc22 pm22 an22 cd22 ct22), sl22⟩)
    (c22 : PySem.W.codeIn K cd22 "whole" = true)
    (k22 : PySem.W.keepIn K (.ref f22) = true)
    {f23 : Addr} {od23 an23 : Option Addr} {sl23 : Array (Option Value)} {oc23 kV23 dc23 pm23 cd23 ct23 : Value}
    (a23 : PySem.W.nsIn K mainGlobals "meaning" = some (some (.ref f23)))
    (l23 : K.lookup f23 = some ⟨oc23, od23, .func (PySem.W.fnOf "meaning" "meaning" (defArgs s_meaning) (defBody s_meaning) (defScope s_meaning) .none kV23 dc23 pm23 an23 cd23 ct23), sl23⟩)
    (c23 : PySem.W.codeIn K cd23 "meaning" = true)
    (k23 : PySem.W.keepIn K (.ref f23) = true)
    {f24 : Addr} {od24 an24 : Option Addr} {sl24 : Array (Option Value)} {oc24 kV24 dc24 pm24 cd24 ct24 : Value}
    (a24 : PySem.W.nsIn K mainGlobals "_law_source" = some (some (.ref f24)))
    (l24 : K.lookup f24 = some ⟨oc24, od24, .func (PySem.W.fnOf "_law_source" "_law_source" (defArgs s__law_source) (defBody s__law_source) (defScope s__law_source) .none kV24 dc24 pm24 an24 cd24 ct24), sl24⟩)
    (c24 : PySem.W.codeIn K cd24 "_law_source" = true)
    (k24 : PySem.W.keepIn K (.ref f24) = true)
    {f25 : Addr} {od25 an25 : Option Addr} {sl25 : Array (Option Value)} {oc25 kV25 dc25 pm25 cd25 ct25 : Value}
    (a25 : PySem.W.nsIn K mainGlobals "_law_pick" = some (some (.ref f25)))
    (l25 : K.lookup f25 = some ⟨oc25, od25, .func (PySem.W.fnOf "_law_pick" "_law_pick" (defArgs s__law_pick) (defBody s__law_pick) (defScope s__law_pick) .none kV25 dc25 pm25 an25 cd25 ct25), sl25⟩)
    (c25 : PySem.W.codeIn K cd25 "_law_pick" = true)
    (k25 : PySem.W.keepIn K (.ref f25) = true)
    {f26 : Addr} {od26 an26 : Option Addr} {sl26 : Array (Option Value)} {oc26 kV26 dc26 pm26 cd26 ct26 : Value}
    (a26 : PySem.W.nsIn K mainGlobals "_law_signs" = some (some (.ref f26)))
    (l26 : K.lookup f26 = some ⟨oc26, od26, .func (PySem.W.fnOf "_law_signs" "_law_signs" (defArgs s__law_signs) (defBody s__law_signs) (defScope s__law_signs) .none kV26 dc26 pm26 an26 cd26 ct26), sl26⟩)
    (c26 : PySem.W.codeIn K cd26 "_law_signs" = true)
    (k26 : PySem.W.keepIn K (.ref f26) = true)
    {f27 : Addr} {od27 an27 : Option Addr} {sl27 : Array (Option Value)} {oc27 kV27 dc27 pm27 cd27 ct27 : Value}
    (a27 : PySem.W.nsIn K mainGlobals "_law_key" = some (some (.ref f27)))
    (l27 : K.lookup f27 = some ⟨oc27, od27, .func (PySem.W.fnOf "_law_key" "_law_key" (defArgs s__law_key) (defBody s__law_key) (defScope s__law_key) .none kV27 dc27 pm27 an27 cd27 ct27), sl27⟩)
    (c27 : PySem.W.codeIn K cd27 "_law_key" = true)
    (k27 : PySem.W.keepIn K (.ref f27) = true)
    {f28 : Addr} {od28 an28 : Option Addr} {sl28 : Array (Option Value)} {oc28 kV28 dc28 pm28 cd28 ct28 : Value}
    (a28 : PySem.W.nsIn K mainGlobals "_law_rule" = some (some (.ref f28)))
    (l28 : K.lookup f28 = some ⟨oc28, od28, .func (PySem.W.fnOf "_law_rule" "_law_rule" (defArgs s__law_rule) (defBody s__law_rule) (defScope s__law_rule) .none kV28 dc28 pm28 an28 cd28 ct28), sl28⟩)
    (c28 : PySem.W.codeIn K cd28 "_law_rule" = true)
    (k28 : PySem.W.keepIn K (.ref f28) = true)
    {f29 : Addr} {od29 an29 : Option Addr} {sl29 : Array (Option Value)} {oc29 kV29 dc29 pm29 cd29 ct29 : Value}
    (a29 : PySem.W.nsIn K mainGlobals "_law_ends" = some (some (.ref f29)))
    (l29 : K.lookup f29 = some ⟨oc29, od29, .func (PySem.W.fnOf "_law_ends" "_law_ends" (defArgs s__law_ends) (defBody s__law_ends) (defScope s__law_ends) .none kV29 dc29 pm29 an29 cd29 ct29), sl29⟩)
    (c29 : PySem.W.codeIn K cd29 "_law_ends" = true)
    (k29 : PySem.W.keepIn K (.ref f29) = true)
    {f30 : Addr} {od30 an30 : Option Addr} {sl30 : Array (Option Value)} {oc30 kV30 dc30 pm30 cd30 ct30 : Value}
    (a30 : PySem.W.nsIn K mainGlobals "_law_texts" = some (some (.ref f30)))
    (l30 : K.lookup f30 = some ⟨oc30, od30, .func (PySem.W.fnOf "_law_texts" "_law_texts" (defArgs s__law_texts) (defBody s__law_texts) (defScope s__law_texts) .none kV30 dc30 pm30 an30 cd30 ct30), sl30⟩)
    (c30 : PySem.W.codeIn K cd30 "_law_texts" = true)
    (k30 : PySem.W.keepIn K (.ref f30) = true)
    {f31 : Addr} {od31 an31 : Option Addr} {sl31 : Array (Option Value)} {oc31 kV31 dc31 pm31 cd31 ct31 : Value}
    (a31 : PySem.W.nsIn K mainGlobals "_law_drawn" = some (some (.ref f31)))
    (l31 : K.lookup f31 = some ⟨oc31, od31, .func (PySem.W.fnOf "_law_drawn" "_law_drawn" (defArgs s__law_drawn) (defBody s__law_drawn) (defScope s__law_drawn) .none kV31 dc31 pm31 an31 cd31 ct31), sl31⟩)
    (c31 : PySem.W.codeIn K cd31 "_law_drawn" = true)
    (k31 : PySem.W.keepIn K (.ref f31) = true)
    {f32 : Addr} {od32 an32 : Option Addr} {sl32 : Array (Option Value)} {oc32 kV32 dc32 pm32 cd32 ct32 : Value}
    (a32 : PySem.W.nsIn K mainGlobals "_law_all_ends" = some (some (.ref f32)))
    (l32 : K.lookup f32 = some ⟨oc32, od32, .func (PySem.W.fnOf "_law_all_ends" "_law_all_ends" (defArgs s__law_all_ends) (defBody s__law_all_ends) (defScope s__law_all_ends) .none kV32 dc32 pm32 an32 cd32 ct32), sl32⟩)
    (c32 : PySem.W.codeIn K cd32 "_law_all_ends" = true)
    (k32 : PySem.W.keepIn K (.ref f32) = true)
    {f33 : Addr} {od33 an33 : Option Addr} {sl33 : Array (Option Value)} {oc33 kV33 dc33 pm33 cd33 ct33 : Value}
    (a33 : PySem.W.nsIn K mainGlobals "law" = some (some (.ref f33)))
    (l33 : K.lookup f33 = some ⟨oc33, od33, .func (PySem.W.fnOf "law" "law" (defArgs s_law) (defBody s_law) (defScope s_law) .none kV33 dc33 pm33 an33 cd33 ct33), sl33⟩)
    (c33 : PySem.W.codeIn K cd33 "law" = true)
    (k33 : PySem.W.keepIn K (.ref f33) = true)
    {CR : Addr}
    (gCR : PySem.W.nsIn K mainGlobals "ShrunkError" = some (some (.ref CR)))
    (tyCR : PySem.W.typeIn K (.ref CR) = some (.type "type"))
    (icCR : PySem.W.isClsIn K CR = true)
    {CS : Addr}
    (gCS : PySem.W.nsIn K mainGlobals "BadSigns" = some (some (.ref CS)))
    (tyCS : PySem.W.typeIn K (.ref CS) = some (.type "type"))
    (icCS : PySem.W.isClsIn K CS = true)
    {CB : Addr}
    (gCB : PySem.W.nsIn K mainGlobals "BadRule" = some (some (.ref CB)))
    (tyCB : PySem.W.typeIn K (.ref CB) = some (.type "type"))
    (icCB : PySem.W.isClsIn K CB = true)
    {CN : Addr}
    (gCN : PySem.W.nsIn K mainGlobals "NotSettled" = some (some (.ref CN)))
    (tyCN : PySem.W.typeIn K (.ref CN) = some (.type "type"))
    (icCN : PySem.W.isClsIn K CN = true)
    {C : Addr}
    (gC : PySem.W.nsIn K mainGlobals "Book" = some (some (.ref C)))
    (tyC : PySem.W.typeIn K (.ref C) = some (.type "type"))
    (icC : PySem.W.isClsIn K C = true)
    {SE : Addr}
    (gSE : PySem.W.nsIn K mainGlobals "Settled" = some (some (.ref SE)))
    (tySE : PySem.W.typeIn K (.ref SE) = some (.type "type"))
    (icSE : PySem.W.isClsIn K SE = true)
    {CL : Addr}
    (gCL : PySem.W.nsIn K mainGlobals "Lot" = some (some (.ref CL)))
    (tyCL : PySem.W.typeIn K (.ref CL) = some (.type "type"))
    (icCL : PySem.W.isClsIn K CL = true)
    {fI1 : Addr} {odI1 anI1 : Option Addr} {slI1 : Array (Option Value)} {ocI1 kVI1 dcI1 pmI1 cdI1 ctI1 : Value}
    (aI1 : PySem.W.findIn K (.ref CS) "__init__" = some (some (.ref fI1)))
    (tI1 : PySem.W.typeIn K (.ref fI1) = some (.type "function"))
    (lI1 : K.lookup fI1 = some ⟨ocI1, odI1, .func (PySem.W.fnOf "__init__" "WrongThing.__init__" (defArgs s_initT) (defBody s_initT) (defScope s_initT) .none kVI1 dcI1 pmI1 anI1 cdI1 ctI1), slI1⟩)
    (cI1 : PySem.W.codeIn K cdI1 "WrongThing.__init__" = true)
    (kI1 : PySem.W.keepIn K (.ref fI1) = true)
    {fI2 : Addr} {odI2 anI2 : Option Addr} {slI2 : Array (Option Value)} {ocI2 kVI2 dcI2 pmI2 cdI2 ctI2 : Value}
    (aI2 : PySem.W.findIn K (.ref CB) "__init__" = some (some (.ref fI2)))
    (tI2 : PySem.W.typeIn K (.ref fI2) = some (.type "function"))
    (lI2 : K.lookup fI2 = some ⟨ocI2, odI2, .func (PySem.W.fnOf "__init__" "WrongItem.__init__" (defArgs s_initI) (defBody s_initI) (defScope s_initI) .none kVI2 dcI2 pmI2 anI2 cdI2 ctI2), slI2⟩)
    (cI2 : PySem.W.codeIn K cdI2 "WrongItem.__init__" = true)
    (kI2 : PySem.W.keepIn K (.ref fI2) = true)
    {fI3 : Addr} {odI3 anI3 : Option Addr} {slI3 : Array (Option Value)} {ocI3 kVI3 dcI3 pmI3 cdI3 ctI3 : Value}
    (aI3 : PySem.W.findIn K (.ref CN) "__init__" = some (some (.ref fI3)))
    (tI3 : PySem.W.typeIn K (.ref fI3) = some (.type "function"))
    (lI3 : K.lookup fI3 = some ⟨ocI3, odI3, .func (PySem.W.fnOf "__init__" "NotSettled.__init__" (defArgs s_NotSettled___init__) (defBody s_NotSettled___init__) (defScope s_NotSettled___init__) .none kVI3 dcI3 pmI3 anI3 cdI3 ctI3), slI3⟩)
    (cI3 : PySem.W.codeIn K cdI3 "NotSettled.__init__" = true)
    (kI3 : PySem.W.keepIn K (.ref fI3) = true)
    {fI4 : Addr} {odI4 anI4 : Option Addr} {slI4 : Array (Option Value)} {ocI4 kVI4 dcI4 pmI4 cdI4 ctI4 : Value}
    (aI4 : PySem.W.findIn K (.ref C) "__init__" = some (some (.ref fI4)))
    (tI4 : PySem.W.typeIn K (.ref fI4) = some (.type "function"))
    (lI4 : K.lookup fI4 = some ⟨ocI4, odI4, .func (PySem.W.fnOf "__init__" "Book.__init__" (defArgs s_Book___init__) (defBody s_Book___init__) (defScope s_Book___init__) .none kVI4 dcI4 pmI4 anI4 cdI4 ctI4), slI4⟩)
    (cI4 : PySem.W.codeIn K cdI4 "Book.__init__" = true)
    (kI4 : PySem.W.keepIn K (.ref fI4) = true)
    {fI5 : Addr} {odI5 anI5 : Option Addr} {slI5 : Array (Option Value)} {ocI5 kVI5 dcI5 pmI5 cdI5 ctI5 : Value}
    (aI5 : PySem.W.findIn K (.ref SE) "__init__" = some (some (.ref fI5)))
    (tI5 : PySem.W.typeIn K (.ref fI5) = some (.type "function"))
    (lI5 : K.lookup fI5 = some ⟨ocI5, odI5, .func (PySem.W.fnOf "__init__" "Settled.__init__" (defArgs s_Settled___init__) (defBody s_Settled___init__) (defScope s_Settled___init__) .none kVI5 dcI5 pmI5 anI5 cdI5 ctI5), slI5⟩)
    (cI5 : PySem.W.codeIn K cdI5 "Settled.__init__" = true)
    (kI5 : PySem.W.keepIn K (.ref fI5) = true)
    {fI6 : Addr} {odI6 anI6 : Option Addr} {slI6 : Array (Option Value)} {ocI6 kVI6 dcI6 pmI6 cdI6 ctI6 : Value}
    (aI6 : PySem.W.findIn K (.ref CL) "__init__" = some (some (.ref fI6)))
    (tI6 : PySem.W.typeIn K (.ref fI6) = some (.type "function"))
    (lI6 : K.lookup fI6 = some ⟨ocI6, odI6, .func (PySem.W.fnOf "__init__" "Lot.__init__" (defArgs s_Lot___init__) (defBody s_Lot___init__) (defScope s_Lot___init__) .none kVI6 dcI6 pmI6 anI6 cdI6 ctI6), slI6⟩)
    (cI6 : PySem.W.codeIn K cdI6 "Lot.__init__" = true)
    (kI6 : PySem.W.keepIn K (.ref fI6) = true)
    {fO : Addr} {odO anO : Option Addr} {slO : Array (Option Value)} {ocO kVO dcO pmO cdO ctO : Value}
    (aO : PySem.W.findIn K (.ref SE) "__bool__" = some (some (.ref fO)))
    (nO : PySem.W.isFn K (.ref fO) = true)
    (lO : K.lookup fO = some ⟨ocO, odO, .func (PySem.W.fnOf "__bool__" "Settled.__bool__" (defArgs s_Settled___bool__) (defBody s_Settled___bool__) (defScope s_Settled___bool__) .none kVO dcO pmO anO cdO ctO), slO⟩)
    (cO : PySem.W.codeIn K cdO "Settled.__bool__" = true)
    (kO : PySem.W.keepIn K (.ref fO) = true)
    {fQ : Addr} {odQ anQ : Option Addr} {slQ : Array (Option Value)} {ocQ kVQ dcQ pmQ cdQ ctQ : Value}
    {pQ : Addr} {rtQ : List Value}
    (aQ : PySem.W.findIn K (.ref C) "quarrel" = some (some (.ref pQ)))
    (pgQ : PySem.W.specialIn K (.ref pQ) "__get__" = some (some (.builtin "property.__get__")))
    (ptQ : PySem.W.takesIn K (.ref pQ) = some true)
    (prQ : PySem.W.recIn K pQ "property" = some (.ref fQ :: rtQ))
    (lQ : K.lookup fQ = some ⟨ocQ, odQ, .func (PySem.W.fnOf "quarrel" "Book.quarrel" (defArgs s_Book_quarrel) (defBody s_Book_quarrel) (defScope s_Book_quarrel) .none kVQ dcQ pmQ anQ cdQ ctQ), slQ⟩)
    (cQ : PySem.W.codeIn K cdQ "Book.quarrel" = true)
    (kQ : PySem.W.keepIn K (.ref fQ) = true)
    {nmCS qCS : Str} {NCS : Addr} {bsCS bmCS : List Value} {snCS : List Str} {subCS : List Value} {abCS : Bool} {colCS : Option Bool} {ddCS : Option Addr} {m0CS m1CS m2CS m3CS m5CS : Option Value}
    (xCS : K.lookup CS = some (excClassObj nmCS qCS CS NCS bsCS bmCS true snCS subCS abCS colCS ddCS m0CS m1CS m2CS m3CS m5CS "ValueError.__new__"))
    (vCS : PySem.HandSPX.refsVE bmCS = true)
    (saCS : PySem.W.findIn K (.ref CS) "__setattr__" = some (some (.builtin "object.__setattr__")))
    (exCS : PySem.W.subIn K (.ref CS) (.type "BaseException") = some true)
    (kCCS : PySem.W.keepIn K (.ref CS) = true)
    (noCS : PySem.W.findIn K (.ref CS) "thing" = some none)
    {nmCB qCB : Str} {NCB : Addr} {bsCB bmCB : List Value} {snCB : List Str} {subCB : List Value} {abCB : Bool} {colCB : Option Bool} {ddCB : Option Addr} {m0CB m1CB m2CB m3CB m5CB : Option Value}
    (xCB : K.lookup CB = some (excClassObj nmCB qCB CB NCB bsCB bmCB true snCB subCB abCB colCB ddCB m0CB m1CB m2CB m3CB m5CB "ValueError.__new__"))
    (vCB : PySem.HandSPX.refsVE bmCB = true)
    (saCB : PySem.W.findIn K (.ref CB) "__setattr__" = some (some (.builtin "object.__setattr__")))
    (exCB : PySem.W.subIn K (.ref CB) (.type "BaseException") = some true)
    (kCCB : PySem.W.keepIn K (.ref CB) = true)
    (noCB : PySem.W.findIn K (.ref CB) "place" = some none)
    {nmCN qCN : Str} {NCN : Addr} {bsCN bmCN : List Value} {snCN : List Str} {subCN : List Value} {abCN : Bool} {colCN : Option Bool} {ddCN : Option Addr} {m0CN m1CN m2CN m3CN m5CN : Option Value}
    (xCN : K.lookup CN = some (excClassObj nmCN qCN CN NCN bsCN bmCN true snCN subCN abCN colCN ddCN m0CN m1CN m2CN m3CN m5CN "ValueError.__new__"))
    (vCN : PySem.HandSPX.refsVE bmCN = true)
    (saCN : PySem.W.findIn K (.ref CN) "__setattr__" = some (some (.builtin "object.__setattr__")))
    (exCN : PySem.W.subIn K (.ref CN) (.type "BaseException") = some true)
    (kCCN : PySem.W.keepIn K (.ref CN) = true)
    (noCN : PySem.W.findIn K (.ref CN) "text" = some none)
    (gaCN : PySem.W.findIn K (.ref CN) "__getattribute__" = some (some (.builtin "BaseException.__getattribute__")))
    (ggCN : PySem.W.findIn K (.ref CN) "__getattr__" = some none)
    (hdCN : PySem.W.hasDictIn K CN = true)
    (ssCN : PySem.W.subIn K (.ref CN) (.ref CN) = some true)
    (haCN : PySem.W.findIn K (.ref CN) "__class__" = some (some (.builtin "object.__class__")))
    (hnCN : PySem.W.specialIn K (.builtin "object.__class__") "__get__" = some (some (.builtin "getset_descriptor.__get__")))
    (htCN : PySem.W.takesIn K (.builtin "object.__class__") = some true)
    (hmCN : PySem.W.mroIn K CN (.type "object") = some true)
    (mkC : PySem.W.makesIn K C = true)
    (kpC : PySem.W.keepIn K (.ref C) = true)
    (pgC : PySem.W.plainGet K C Str.empty = true)
    (hdC : PySem.W.hasDictIn K C = true)
    (poC : PySem.W.plainOver K C = true)
    (saC : PySem.W.findIn K (.ref C) "__setattr__" = some (some (.builtin "object.__setattr__")))
    (nxC0 : PySem.W.findIn K (.ref C) "signs" = some none)
    (nxC1 : PySem.W.findIn K (.ref C) "rules" = some none)
    (nxC2 : PySem.W.findIn K (.ref C) "_rights" = some none)
    (nxC3 : PySem.W.findIn K (.ref C) "_quarrel" = some none)
    (mkSE : PySem.W.makesIn K SE = true)
    (kpSE : PySem.W.keepIn K (.ref SE) = true)
    (pgSE : PySem.W.plainGet K SE Str.empty = true)
    (hdSE : PySem.W.hasDictIn K SE = true)
    (poSE : PySem.W.plainOver K SE = true)
    (saSE : PySem.W.findIn K (.ref SE) "__setattr__" = some (some (.builtin "object.__setattr__")))
    (nxSE0 : PySem.W.findIn K (.ref SE) "holds" = some none)
    (nxSE1 : PySem.W.findIn K (.ref SE) "meets" = some none)
    (nxSE2 : PySem.W.findIn K (.ref SE) "text" = some none)
    (nxSE3 : PySem.W.findIn K (.ref SE) "ends" = some none)
    (mkCL : PySem.W.makesIn K CL = true)
    (kpCL : PySem.W.keepIn K (.ref CL) = true)
    (pgCL : PySem.W.plainGet K CL Str.empty = true)
    (hdCL : PySem.W.hasDictIn K CL = true)
    (poCL : PySem.W.plainOver K CL = true)
    (saCL : PySem.W.findIn K (.ref CL) "__setattr__" = some (some (.builtin "object.__setattr__")))
    (uCNCR : PySem.W.subIn K (.ref CN) (.ref CR) = some true)
    {tMOST_SIGNS : Tok}
    (nMOST_SIGNS : PySem.W.nsIn K mainGlobals "MOST_SIGNS" = some (some (.int 8 tMOST_SIGNS)))
    {tLONGEST_TEXT : Tok}
    (nLONGEST_TEXT : PySem.W.nsIn K mainGlobals "LONGEST_TEXT" = some (some (.int 200 tLONGEST_TEXT)))
    {tMOST_RULES : Tok}
    (nMOST_RULES : PySem.W.nsIn K mainGlobals "MOST_RULES" = some (some (.int 64 tMOST_RULES)))
    {tLONGEST_LEFT : Tok}
    (nLONGEST_LEFT : PySem.W.nsIn K mainGlobals "LONGEST_LEFT" = some (some (.int 4 tLONGEST_LEFT)))
    {tLONGEST_RIGHT : Tok}
    (nLONGEST_RIGHT : PySem.W.nsIn K mainGlobals "LONGEST_RIGHT" = some (some (.int 1 tLONGEST_RIGHT)))
    (z_int : PySem.W.nsIn K mainGlobals "int" = some none)
    (z_len : PySem.W.nsIn K mainGlobals "len" = some none)
    (z_range : PySem.W.nsIn K mainGlobals "range" = some none)
    (z_abs : PySem.W.nsIn K mainGlobals "abs" = some none)
    (z_max : PySem.W.nsIn K mainGlobals "max" = some none)
    (z_min : PySem.W.nsIn K mainGlobals "min" = some none)
    (z_tuple : PySem.W.nsIn K mainGlobals "tuple" = some none)
    (z_list : PySem.W.nsIn K mainGlobals "list" = some none)
    (z_str : PySem.W.nsIn K mainGlobals "str" = some none)
    (z_bool : PySem.W.nsIn K mainGlobals "bool" = some none)
    (z_sorted : PySem.W.nsIn K mainGlobals "sorted" = some none)
    (z_repr : PySem.W.nsIn K mainGlobals "repr" = some none)
    (z_isinstance : PySem.W.nsIn K mainGlobals "isinstance" = some none)
    (z_enumerate : PySem.W.nsIn K mainGlobals "enumerate" = some none)
    (z_all : PySem.W.nsIn K mainGlobals "all" = some none)
    (z_any : PySem.W.nsIn K mainGlobals "any" = some none) :
    ∃ fd : FuncData, (∀ (s : Shared) (u : Value), BindsTo s fd ⟨[u], []⟩ [("_law_script", u)]) ∧ ∀ base : Heap, K.In base → base.Ns mainGlobals mg → Wp.FnTop l.prog w K mg base CX0 fa fd ["_law_script"] (spLaw K) := by
  have e := hfa.symm.trans (PySem.W.mg_of X G a33)
  cases e
  have F_is_row := fun_mk (st := s_is_row) l1 c1 k1
  have b_is_row := F_is_row.binds (ps := ["thing"]) fun _ _ _ _ _ _ us hl => match us, hl with | [_], _ => rfl
  have D_is_row : Wp.Dh K mg "is_row" f1 _ ["thing"] := ⟨PySem.W.mg_of X G a1, k1, b_is_row⟩
  have F_ascending_texts := fun_mk (st := s_ascending_texts) l2 c2 k2
  have b_ascending_texts := F_ascending_texts.binds (ps := ["texts"]) fun _ _ _ _ _ _ us hl => match us, hl with | [_], _ => rfl
  have D_ascending_texts : Wp.Dh K mg "ascending_texts" f2 _ ["texts"] := ⟨PySem.W.mg_of X G a2, k2, b_ascending_texts⟩
  have F_is_text := fun_mk (st := s_is_text) l3 c3 k3
  have b_is_text := F_is_text.binds (ps := ["signs", "thing", "most"]) fun _ _ _ _ _ _ us hl => match us, hl with | [_, _, _], _ => rfl
  have D_is_text : Wp.Dh K mg "is_text" f3 _ ["signs", "thing", "most"] := ⟨PySem.W.mg_of X G a3, k3, b_is_text⟩
  have F_checked_signs := fun_mk (st := s_checked_signs) l4 c4 k4
  have b_checked_signs := F_checked_signs.binds (ps := ["thing"]) fun _ _ _ _ _ _ us hl => match us, hl with | [_], _ => rfl
  have D_checked_signs : Wp.Dh K mg "checked_signs" f4 _ ["thing"] := ⟨PySem.W.mg_of X G a4, k4, b_checked_signs⟩
  have F_is_rule := fun_mk (st := s_is_rule) l5 c5 k5
  have b_is_rule := F_is_rule.binds (ps := ["signs", "thing"]) fun _ _ _ _ _ _ us hl => match us, hl with | [_, _], _ => rfl
  have D_is_rule : Wp.Dh K mg "is_rule" f5 _ ["signs", "thing"] := ⟨PySem.W.mg_of X G a5, k5, b_is_rule⟩
  have F_rules_of := fun_mk (st := s_rules_of) l6 c6 k6
  have b_rules_of := F_rules_of.binds (ps := ["signs", "things"]) fun _ _ _ _ _ _ us hl => match us, hl with | [_, _], _ => rfl
  have D_rules_of : Wp.Dh K mg "rules_of" f6 _ ["signs", "things"] := ⟨PySem.W.mg_of X G a6, k6, b_rules_of⟩
  have F_first_rights := fun_mk (st := s_first_rights) l7 c7 k7
  have b_first_rights := F_first_rights.binds (ps := ["rules"]) fun _ _ _ _ _ _ us hl => match us, hl with | [_], _ => rfl
  have D_first_rights : Wp.Dh K mg "first_rights" f7 _ ["rules"] := ⟨PySem.W.mg_of X G a7, k7, b_first_rights⟩
  have F_numbers_of := fun_mk (st := s_numbers_of) l8 c8 k8
  have b_numbers_of := F_numbers_of.binds (ps := ["rules"]) fun _ _ _ _ _ _ us hl => match us, hl with | [_], _ => rfl
  have D_numbers_of : Wp.Dh K mg "numbers_of" f8 _ ["rules"] := ⟨PySem.W.mg_of X G a8, k8, b_numbers_of⟩
  have F_first_fit := fun_mk (st := s_first_fit) l9 c9 k9
  have b_first_fit := F_first_fit.binds (ps := ["rights", "tail"]) fun _ _ _ _ _ _ us hl => match us, hl with | [_, _], _ => rfl
  have D_first_fit : Wp.Dh K mg "first_fit" f9 _ ["rights", "tail"] := ⟨PySem.W.mg_of X G a9, k9, b_first_fit⟩
  have F_left_over := fun_mk (st := s_left_over) l10 c10 k10
  have b_left_over := F_left_over.binds (ps := ["rights", "text"]) fun _ _ _ _ _ _ us hl => match us, hl with | [_, _], _ => rfl
  have D_left_over : Wp.Dh K mg "left_over" f10 _ ["rights", "text"] := ⟨PySem.W.mg_of X G a10, k10, b_left_over⟩
  have F_left_of_all := fun_mk (st := s_left_of_all) l11 c11 k11
  have b_left_of_all := F_left_of_all.binds (ps := ["rights", "pieces"]) fun _ _ _ _ _ _ us hl => match us, hl with | [_, _], _ => rfl
  have D_left_of_all : Wp.Dh K mg "left_of_all" f11 _ ["rights", "pieces"] := ⟨PySem.W.mg_of X G a11, k11, b_left_of_all⟩
  have F_used := fun_mk (st := s_used) l12 c12 k12
  have b_used := F_used.binds (ps := ["rules", "text", "place", "number"]) fun _ _ _ _ _ _ us hl => match us, hl with | [_, _, _, _], _ => rfl
  have D_used : Wp.Dh K mg "used" f12 _ ["rules", "text", "place", "number"] := ⟨PySem.W.mg_of X G a12, k12, b_used⟩
  have F_overlap_text := fun_mk (st := s_overlap_text) l13 c13 k13
  have b_overlap_text := F_overlap_text.binds (ps := ["left", "place", "other"]) fun _ _ _ _ _ _ us hl => match us, hl with | [_, _, _], _ => rfl
  have D_overlap_text : Wp.Dh K mg "overlap_text" f13 _ ["left", "place", "other"] := ⟨PySem.W.mg_of X G a13, k13, b_overlap_text⟩
  have F_overlaps_of := fun_mk (st := s_overlaps_of) l14 c14 k14
  have b_overlaps_of := F_overlaps_of.binds (ps := ["rules"]) fun _ _ _ _ _ _ us hl => match us, hl with | [_], _ => rfl
  have D_overlaps_of : Wp.Dh K mg "overlaps_of" f14 _ ["rules"] := ⟨PySem.W.mg_of X G a14, k14, b_overlaps_of⟩
  have F_steps_of := fun_mk (st := s_steps_of) l15 c15 k15
  have b_steps_of := F_steps_of.binds (ps := ["numbers", "text"]) fun _ _ _ _ _ _ us hl => match us, hl with | [_, _], _ => rfl
  have D_steps_of : Wp.Dh K mg "steps_of" f15 _ ["numbers", "text"] := ⟨PySem.W.mg_of X G a15, k15, b_steps_of⟩
  have F_quarrel_of := fun_mk (st := s_quarrel_of) l16 c16 k16
  have b_quarrel_of := F_quarrel_of.binds (ps := ["rules"]) fun _ _ _ _ _ _ us hl => match us, hl with | [_], _ => rfl
  have D_quarrel_of : Wp.Dh K mg "quarrel_of" f16 _ ["rules"] := ⟨PySem.W.mg_of X G a16, k16, b_quarrel_of⟩
  have F_ends_of_quarrel := fun_mk (st := s_ends_of_quarrel) l17 c17 k17
  have b_ends_of_quarrel := F_ends_of_quarrel.binds (ps := ["rules", "text"]) fun _ _ _ _ _ _ us hl => match us, hl with | [_, _], _ => rfl
  have D_ends_of_quarrel : Wp.Dh K mg "ends_of_quarrel" f17 _ ["rules", "text"] := ⟨PySem.W.mg_of X G a17, k17, b_ends_of_quarrel⟩
  have F_checked_book := fun_mk (st := s_checked_book) l18 c18 k18
  have b_checked_book := F_checked_book.binds (ps := ["book"]) fun _ _ _ _ _ _ us hl => match us, hl with | [_], _ => rfl
  have D_checked_book : Wp.Dh K mg "checked_book" f18 _ ["book"] := ⟨PySem.W.mg_of X G a18, k18, b_checked_book⟩
  have F_settled := fun_mk (st := s_settled) l19 c19 k19
  have b_settled := F_settled.binds (ps := ["book"]) fun _ _ _ _ _ _ us hl => match us, hl with | [_], _ => rfl
  have D_settled : Wp.Dh K mg "settled" f19 _ ["book"] := ⟨PySem.W.mg_of X G a19, k19, b_settled⟩
  have F_least_rules := fun_mk (st := s_least_rules) l20 c20 k20
  have b_least_rules := F_least_rules.binds (ps := ["book"]) fun _ _ _ _ _ _ us hl => match us, hl with | [_], _ => rfl
  have D_least_rules : Wp.Dh K mg "least_rules" f20 _ ["book"] := ⟨PySem.W.mg_of X G a20, k20, b_least_rules⟩
  have F_least_book := fun_mk (st := s_least_book) l21 c21 k21
  have b_least_book := F_least_book.binds (ps := ["book"]) fun _ _ _ _ _ _ us hl => match us, hl with | [_], _ => rfl
  have D_least_book : Wp.Dh K mg "least_book" f21 _ ["book"] := ⟨PySem.W.mg_of X G a21, k21, b_least_book⟩
  have F_whole := fun_mk (st := s_whole) l22 c22 k22
  have b_whole := F_whole.binds (ps := ["book"]) fun _ _ _ _ _ _ us hl => match us, hl with | [_], _ => rfl
  have D_whole : Wp.Dh K mg "whole" f22 _ ["book"] := ⟨PySem.W.mg_of X G a22, k22, b_whole⟩
  have F_meaning := fun_mk (st := s_meaning) l23 c23 k23
  have b_meaning := F_meaning.binds (ps := ["book", "text"]) fun _ _ _ _ _ _ us hl => match us, hl with | [_, _], _ => rfl
  have D_meaning : Wp.Dh K mg "meaning" f23 _ ["book", "text"] := ⟨PySem.W.mg_of X G a23, k23, b_meaning⟩
  have F__law_source := fun_mk (st := s__law_source) l24 c24 k24
  have b__law_source := F__law_source.binds (ps := ["_law_script", "_law_place"]) fun _ _ _ _ _ _ us hl => match us, hl with | [_, _], _ => rfl
  have D__law_source : Wp.Dh K mg "_law_source" f24 _ ["_law_script", "_law_place"] := ⟨PySem.W.mg_of X G a24, k24, b__law_source⟩
  have F__law_pick := fun_mk (st := s__law_pick) l25 c25 k25
  have b__law_pick := F__law_pick.binds (ps := ["_law_source_here", "_law_many"]) fun _ _ _ _ _ _ us hl => match us, hl with | [_, _], _ => rfl
  have D__law_pick : Wp.Dh K mg "_law_pick" f25 _ ["_law_source_here", "_law_many"] := ⟨PySem.W.mg_of X G a25, k25, b__law_pick⟩
  have F__law_signs := fun_mk (st := s__law_signs) l26 c26 k26
  have b__law_signs := F__law_signs.binds (ps := ["_law_source_here"]) fun _ _ _ _ _ _ us hl => match us, hl with | [_], _ => rfl
  have D__law_signs : Wp.Dh K mg "_law_signs" f26 _ ["_law_source_here"] := ⟨PySem.W.mg_of X G a26, k26, b__law_signs⟩
  have F__law_key := fun_mk (st := s__law_key) l27 c27 k27
  have b__law_key := F__law_key.binds (ps := ["_law_text"]) fun _ _ _ _ _ _ us hl => match us, hl with | [_], _ => rfl
  have D__law_key : Wp.Dh K mg "_law_key" f27 _ ["_law_text"] := ⟨PySem.W.mg_of X G a27, k27, b__law_key⟩
  have F__law_rule := fun_mk (st := s__law_rule) l28 c28 k28
  have b__law_rule := F__law_rule.binds (ps := ["_law_source_here", "_law_signs_here", "_law_longest"]) fun _ _ _ _ _ _ us hl => match us, hl with | [_, _, _], _ => rfl
  have D__law_rule : Wp.Dh K mg "_law_rule" f28 _ ["_law_source_here", "_law_signs_here", "_law_longest"] := ⟨PySem.W.mg_of X G a28, k28, b__law_rule⟩
  have F__law_ends := fun_mk (st := s__law_ends) l29 c29 k29
  have b__law_ends := F__law_ends.binds (ps := ["_law_signs_here", "_law_rules", "_law_size"]) fun _ _ _ _ _ _ us hl => match us, hl with | [_, _, _], _ => rfl
  have D__law_ends : Wp.Dh K mg "_law_ends" f29 _ ["_law_signs_here", "_law_rules", "_law_size"] := ⟨PySem.W.mg_of X G a29, k29, b__law_ends⟩
  have F__law_texts := fun_mk (st := s__law_texts) l30 c30 k30
  have b__law_texts := F__law_texts.binds (ps := ["_law_signs_here", "_law_size"]) fun _ _ _ _ _ _ us hl => match us, hl with | [_, _], _ => rfl
  have D__law_texts : Wp.Dh K mg "_law_texts" f30 _ ["_law_signs_here", "_law_size"] := ⟨PySem.W.mg_of X G a30, k30, b__law_texts⟩
  have F__law_drawn := fun_mk (st := s__law_drawn) l31 c31 k31
  have b__law_drawn := F__law_drawn.binds (ps := ["_law_source_here", "_law_signs_here"]) fun _ _ _ _ _ _ us hl => match us, hl with | [_, _], _ => rfl
  have D__law_drawn : Wp.Dh K mg "_law_drawn" f31 _ ["_law_source_here", "_law_signs_here"] := ⟨PySem.W.mg_of X G a31, k31, b__law_drawn⟩
  have F__law_all_ends := fun_mk (st := s__law_all_ends) l32 c32 k32
  have b__law_all_ends := F__law_all_ends.binds (ps := ["_law_signs_here", "_law_rules", "_law_size"]) fun _ _ _ _ _ _ us hl => match us, hl with | [_, _, _], _ => rfl
  have D__law_all_ends : Wp.Dh K mg "_law_all_ends" f32 _ ["_law_signs_here", "_law_rules", "_law_size"] := ⟨PySem.W.mg_of X G a32, k32, b__law_all_ends⟩
  have F_law := fun_mk (st := s_law) l33 c33 k33
  have b_law := F_law.binds (ps := ["_law_script"]) fun _ _ _ _ _ _ us hl => match us, hl with | [_], _ => rfl
  have k_ShrunkError : mg "ShrunkError" = some (.ref CR) := PySem.W.mg_of X G gCR
  have k_BadSigns : mg "BadSigns" = some (.ref CS) := PySem.W.mg_of X G gCS
  have k_BadRule : mg "BadRule" = some (.ref CB) := PySem.W.mg_of X G gCB
  have k_NotSettled : mg "NotSettled" = some (.ref CN) := PySem.W.mg_of X G gCN
  have k_Book : mg "Book" = some (.ref C) := PySem.W.mg_of X G gC
  have k_Settled : mg "Settled" = some (.ref SE) := PySem.W.mg_of X G gSE
  have k_Lot : mg "Lot" = some (.ref CL) := PySem.W.mg_of X G gCL
  have F_I1 := fun_mk (x := "__init__") (qual := "WrongThing.__init__") (st := s_initT) lI1 cI1 kI1
  have b_I1 := F_I1.binds (ps := ["self", "thing"]) fun _ _ _ _ _ _ us hl => match us, hl with | [_, _], _ => rfl
  have F_I2 := fun_mk (x := "__init__") (qual := "WrongItem.__init__") (st := s_initI) lI2 cI2 kI2
  have b_I2 := F_I2.binds (ps := ["self", "place"]) fun _ _ _ _ _ _ us hl => match us, hl with | [_, _], _ => rfl
  have F_I3 := fun_mk (x := "__init__") (qual := "NotSettled.__init__") (st := s_NotSettled___init__) lI3 cI3 kI3
  have b_I3 := F_I3.binds (ps := ["self", "text"]) fun _ _ _ _ _ _ us hl => match us, hl with | [_, _], _ => rfl
  have F_I4 := fun_mk (x := "__init__") (qual := "Book.__init__") (st := s_Book___init__) lI4 cI4 kI4
  have b_I4 := F_I4.binds (ps := ["self", "signs", "rules"]) fun _ _ _ _ _ _ us hl => match us, hl with | [_, _, _], _ => rfl
  have F_I5 := fun_mk (x := "__init__") (qual := "Settled.__init__") (st := s_Settled___init__) lI5 cI5 kI5
  have b_I5 := F_I5.binds (ps := ["self", "holds", "meets", "text", "ends"]) fun _ _ _ _ _ _ us hl => match us, hl with | [_, _, _, _, _], _ => rfl
  have F_I6 := fun_mk (x := "__init__") (qual := "Lot.__init__") (st := s_Lot___init__) lI6 cI6 kI6
  have b_I6 := F_I6.binds (ps := ["self", "book", "automaton"]) fun _ _ _ _ _ _ us hl => match us, hl with | [_, _, _], _ => rfl
  have P_O : BoolC K SE fO := ⟨aO, nO⟩
  have F_O := fun_mk (x := "__bool__") (qual := "Settled.__bool__") (st := s_Settled___bool__) lO cO kO
  have b_O := F_O.binds (ps := ["self"]) fun _ _ _ _ _ _ us hl => match us, hl with | [_], _ => rfl
  have P_Q : PropOf K C "quarrel" pQ fQ := ⟨aQ, pgQ, ptQ, ⟨_, prQ⟩⟩
  have F_Q := fun_mk (x := "quarrel") (qual := "Book.quarrel") (st := s_Book_quarrel) lQ cQ kQ
  have b_Q := F_Q.binds (ps := ["self"]) fun _ _ _ _ _ _ us hl => match us, hl with | [_], _ => rfl
  have O_BadSigns : OexC K CS := ⟨⟨_, _, _, _, _, _, _, _, _, _, _, _, _, _, _, xCS, vCS⟩, saCS, exCS, tyCS, kCCS⟩
  have T_BadSigns : Wp.ExT K mg "BadSigns" CS fI1 "thing" := ⟨O_BadSigns, k_BadSigns, aI1, tI1, noCS⟩
  have O_BadRule : OexC K CB := ⟨⟨_, _, _, _, _, _, _, _, _, _, _, _, _, _, _, xCB, vCB⟩, saCB, exCB, tyCB, kCCB⟩
  have T_BadRule : Wp.ExT K mg "BadRule" CB fI2 "place" := ⟨O_BadRule, k_BadRule, aI2, tI2, noCB⟩
  have O_NotSettled : OexC K CN := ⟨⟨_, _, _, _, _, _, _, _, _, _, _, _, _, _, _, xCN, vCN⟩, saCN, exCN, tyCN, kCCN⟩
  have T_NotSettled : Wp.ExT K mg "NotSettled" CN fI3 "text" := ⟨O_NotSettled, k_NotSettled, aI3, tI3, noCN⟩
  have C_NotSettled : Bk.Ca K mg "NotSettled" CN "text" := ⟨k_NotSettled, Wp.exm_of exCN icCN tyCN ssCN, ⟨gaCN, ggCN, exCN, hdCN⟩, noCN, ⟨gaCN, ggCN, exCN, hdCN, haCN, hnCN, htCN, hmCN⟩⟩
  have M_Book : Mk K C fI4 := ⟨mkC, aI4, by (show (PySem.W.typeIn K (.ref fI4) == some (.type "function")) = true); rw [tI4]; rfl, kpC⟩
  have K_Book : Cls K C := ⟨pgC, hdC, poC, saC⟩
  have M_Settled : Mk K SE fI5 := ⟨mkSE, aI5, by (show (PySem.W.typeIn K (.ref fI5) == some (.type "function")) = true); rw [tI5]; rfl, kpSE⟩
  have K_Settled : Cls K SE := ⟨pgSE, hdSE, poSE, saSE⟩
  have M_Lot : Mk K CL fI6 := ⟨mkCL, aI6, by (show (PySem.W.typeIn K (.ref fI6) == some (.type "function")) = true); rw [tI6]; rfl, kpCL⟩
  have K_Lot : Cls K CL := ⟨pgCL, hdCL, poCL, saCL⟩
  have iCNCR := Wp.kit_of icCR tyCR uCNCR ssCN
  have c_MOST_SIGNS : ∃ t, mg "MOST_SIGNS" = some (.int 8 t) := ⟨_, PySem.W.mg_of X G nMOST_SIGNS⟩
  have c_LONGEST_TEXT : ∃ t, mg "LONGEST_TEXT" = some (.int 200 t) := ⟨_, PySem.W.mg_of X G nLONGEST_TEXT⟩
  have c_MOST_RULES : ∃ t, mg "MOST_RULES" = some (.int 64 t) := ⟨_, PySem.W.mg_of X G nMOST_RULES⟩
  have c_LONGEST_LEFT : ∃ t, mg "LONGEST_LEFT" = some (.int 4 t) := ⟨_, PySem.W.mg_of X G nLONGEST_LEFT⟩
  have c_LONGEST_RIGHT : ∃ t, mg "LONGEST_RIGHT" = some (.int 1 t) := ⟨_, PySem.W.mg_of X G nLONGEST_RIGHT⟩
  have B_any : mg "any" = none := PySem.W.mg_none_of X G z_any
  have B : Wp.Blt mg := { int := PySem.W.mg_none_of X G z_int, len := PySem.W.mg_none_of X G z_len, range := PySem.W.mg_none_of X G z_range, abs := PySem.W.mg_none_of X G z_abs, max := PySem.W.mg_none_of X G z_max, min := PySem.W.mg_none_of X G z_min, tuple := PySem.W.mg_none_of X G z_tuple, list := PySem.W.mg_none_of X G z_list, str := PySem.W.mg_none_of X G z_str, bool := PySem.W.mg_none_of X G z_bool, sorted := PySem.W.mg_none_of X G z_sorted, repr := PySem.W.mg_none_of X G z_repr, isinstance := PySem.W.mg_none_of X G z_isinstance, enumerate := PySem.W.mg_none_of X G z_enumerate, all := PySem.W.mg_none_of X G z_all }
  refine ⟨PySem.W.fnOf "law" "law" (defArgs s_law) (defBody s_law) (defScope s_law) .none kV33 dc33 pm33 an33 cd33 ct33, fun s u => .of_eq rfl, fun base _ _ => ?_⟩
  have TB : BkC K C := ⟨K_Book, nxC0, nxC1, nxC2, nxC3⟩
  have TX : StC K SE := ⟨K_Settled, nxSE0, nxSE1, nxSE2, nxSE3⟩
  have GT := ok_initT (P := l.prog) (w := w) (mg := mg) (base := base) F_I1
  have GI := ok_initI (P := l.prog) (w := w) (mg := mg) (base := base) F_I2
  have GN := ok_initNS (P := l.prog) (w := w) (mg := mg) (base := base) F_I3
  have G_is_row := ok_row (P := l.prog) (w := w) (mg := mg) (base := base) B F_is_row
  have G_is_text := ok_text (P := l.prog) (w := w) (mg := mg) (base := base) B F_is_text
  have G_checked_signs := ok_signed (P := l.prog) (w := w) (mg := mg) (base := base) B F_checked_signs T_BadSigns c_MOST_SIGNS GT b_I1
  have G_is_rule := ok_rule (P := l.prog) (w := w) (mg := mg) (base := base) B F_is_rule c_LONGEST_LEFT c_LONGEST_RIGHT D_is_row G_is_row D_is_text G_is_text
  have G_rules_of := ok_rules (P := l.prog) (w := w) (mg := mg) (base := base) B F_rules_of c_MOST_RULES D_is_row G_is_row D_is_rule G_is_rule T_BadRule GI b_I2
  have G_first_rights := ok_rights (P := l.prog) (w := w) (mg := mg) (base := base) B F_first_rights
  have G_first_fit := ok_fit (P := l.prog) (w := w) (mg := mg) (base := base) B F_first_fit
  have G_left_of_all := ok_all (P := l.prog) (w := w) (mg := mg) (base := base) B F_left_of_all c_LONGEST_LEFT D_first_fit G_first_fit
  have G_left_over := ok_left (P := l.prog) (w := w) (mg := mg) (base := base) B F_left_over D_left_of_all G_left_of_all
  have G_used := ok_used (P := l.prog) (w := w) (mg := mg) (base := base) B F_used
  have G_overlap_text := ok_ovt (P := l.prog) (w := w) (mg := mg) (base := base) B F_overlap_text
  have G_overlaps_of := ok_ovS (P := l.prog) (w := w) (mg := mg) (base := base) B F_overlaps_of D_overlap_text G_overlap_text
  have G_quarrel_of := ok_quarS (P := l.prog) (w := w) (mg := mg) (base := base) B F_quarrel_of D_first_rights G_first_rights D_overlaps_of G_overlaps_of D_used G_used D_left_over G_left_over
  have G_Book := ok_book (P := l.prog) (w := w) (mg := mg) (base := base) B F_I4 TB D_checked_signs G_checked_signs D_rules_of G_rules_of D_first_rights G_first_rights D_quarrel_of G_quarrel_of
  have G_numbers_of := ok_nums (P := l.prog) (w := w) (mg := mg) (base := base) B F_numbers_of
  have G_steps_of := ok_stepsOf (P := l.prog) (w := w) (mg := mg) (base := base) B F_steps_of c_LONGEST_LEFT
  have G_ascending_texts := ok_asc (P := l.prog) (w := w) (mg := mg) (base := base) B F_ascending_texts
  have G_ends_of_quarrel := ok_eoqs (P := l.prog) (w := w) (mg := mg) (base := base) B F_ends_of_quarrel D_first_rights G_first_rights D_numbers_of G_numbers_of D_steps_of G_steps_of D_used G_used D_left_over G_left_over D_ascending_texts G_ascending_texts
  have G_getq := ok_getq (P := l.prog) (w := w) (mg := mg) (base := base) B F_Q TB
  have G_checked_book := ok_checkedX (P := l.prog) (w := w) (mg := mg) (base := base) B F_checked_book TB P_Q G_getq b_Q T_NotSettled GN b_I3
  have G_stI := ok_stI (P := l.prog) (w := w) (mg := mg) (base := base) B F_I5 TX
  have G_stB := ok_stB (P := l.prog) (w := w) (mg := mg) (base := base) B F_O TX
  have G_settled := ok_settledX (P := l.prog) (w := w) (mg := mg) (base := base) B F_settled TB TX P_Q G_getq b_Q D_ends_of_quarrel G_ends_of_quarrel D_first_rights G_first_rights D_overlaps_of G_overlaps_of D_left_over G_left_over M_Settled k_Settled G_stI b_I5
  have G_Lot := ok_lotNo (P := l.prog) (w := w) (mg := mg) (base := base) B F_I6 D_checked_book G_checked_book
  have G_whole := ok_wholeNo (P := l.prog) (w := w) (mg := mg) (base := base) B F_whole D_checked_book G_checked_book
  have G_meaning := ok_meaningNo (P := l.prog) (w := w) (mg := mg) (base := base) B F_meaning D_checked_book G_checked_book
  have G_least_rules := ok_leastRNo (P := l.prog) (w := w) (mg := mg) (base := base) F_least_rules
  have G_least_book := ok_leastNo (P := l.prog) (w := w) (mg := mg) (base := base) B F_least_book TB D_checked_book G_checked_book D_least_rules G_least_rules M_Book k_Book G_Book b_I4
  have G__law_pick := ok_pick (P := l.prog) (w := w) (mg := mg) (base := base) B F__law_pick
  have G__law_source := ok_source (P := l.prog) (w := w) (mg := mg) (base := base) B F__law_source
  have G__law_signs := ok_signs (P := l.prog) (w := w) (mg := mg) (base := base) B F__law_signs D__law_pick G__law_pick
  have G__law_key := ok_lkey (P := l.prog) (w := w) (mg := mg) (base := base) B F__law_key
  have G__law_rule := ok_druleN (P := l.prog) (w := w) (mg := mg) (base := base) B F__law_rule D__law_pick G__law_pick
  have G__law_drawn := ok_drawnN (P := l.prog) (w := w) (mg := mg) (base := base) B F__law_drawn D__law_pick G__law_pick D__law_rule G__law_rule
  have G__law_ends := ok_lends (P := l.prog) (w := w) (mg := mg) (base := base) B B_any F__law_ends
  have G__law_texts := ok_ltexts (P := l.prog) (w := w) (mg := mg) (base := base) B F__law_texts D__law_ends G__law_ends
  have G__law_all_ends := ok_alle (P := l.prog) (w := w) (mg := mg) (base := base) B F__law_all_ends D__law_texts G__law_texts D__law_key G__law_key
  exact top_law (P := l.prog) (w := w) (mg := mg) (base := base) B F_law TB TX D__law_source G__law_source D__law_signs G__law_signs D__law_drawn G__law_drawn D__law_all_ends G__law_all_ends D__law_key G__law_key D_settled G_settled M_Book k_Book G_Book b_I4 P_O G_stB b_O P_Q G_getq b_Q M_Lot k_Lot G_Lot b_I6 D_whole G_whole D_meaning G_meaning D_least_book G_least_book C_NotSettled k_ShrunkError iCNCR
end
end K09
open PySem PySem.W PyProof.Rows
set_option maxHeartbeats 0 in
theorem PySem.Challenge.cw_shrunkalike_k09_whole_settled_holds : PySem.Challenge.rw_shrunkalike_k09_whole_settled.Holds := by
  w_on; o_law
  refine PySem.W.holds_open (q := Hd.vw) (loose := Hd.lo) (Xt := fun s => xlAt Hd.vw [] s && recOk (RowW.records (OpenRow.toRowW (OpenLaw.row PySem.Challenge.rw_shrunkalike_k09_whole_settled))) s) (XP := XL Hd.vw []) (Yf := Hook.obs (PySem.W.kHook Hd.pre.heap_39 Hd.asL Hd.keys)) (Ya := Hook.val (PySem.W.kHook Hd.pre.heap_39 Hd.asL Hd.keys)) (YP := Hook.says (PySem.W.kHook Hd.pre.heap_39 Hd.asL Hd.keys)) (N := 14198) Hd.left (Hook.of (PySem.W.kHook Hd.pre.heap_39 Hd.asL Hd.keys)) (Hook.keeps (PySem.W.kHook Hd.pre.heap_39 Hd.asL Hd.keys)) (fun s e => xl_of s (Bool.and_eq_true_iff.mp e).1) XL.keeps (by rfl) (by rfl) (by rfl) (fun s e => recFacts_of (Bool.and_eq_true_iff.mp e).2) (by rfl) (by assumption) (by decide +kernel) ⟨rfl, rfl, rfl, rfl, rfl, by decide +kernel⟩ ?hw ?hc
  case hw => w_witness2
  rename_i sd; clear sd
  k_fill
  refine Wp.walk_top (l := PySem.Challenge.rw_shrunkalike_k09_whole_settled) (n := 63) (x := "_law_script") (CX := fun _ => L2.CX0) (sp := fun w => K09.spLaw _) rfl (by decide) rfl (fun w h Y => PySem.W.kIn_of Y) ?F (fun _ _ a ns hl hb _ hS => ⟨a, ns, rfl, hS, hl, hb, fun _ => rfl⟩) ?X
  case F =>
    intro w mg fa h KX G hmg
    refine' K09.all_mk KX G hmg ?a1 ?l1 ?c1 ?k1 ?a2 ?l2 ?c2 ?k2 ?a3 ?l3 ?c3 ?k3 ?a4 ?l4 ?c4 ?k4 ?a5 ?l5 ?c5 ?k5 ?a6 ?l6 ?c6 ?k6 ?a7 ?l7 ?c7 ?k7 ?a8 ?l8 ?c8 ?k8 ?a9 ?l9 ?c9 ?k9 ?a10 ?l10 ?c10 ?k10 ?a11 ?l11 ?c11 ?k11 ?a12 ?l12 ?c12 ?k12 ?a13 ?l13 ?c13 ?k13 ?a14 ?l14 ?c14 ?k14 ?a15 ?l15 ?c15 ?k15 ?a16 ?l16 ?c16 ?k16 ?a17 ?l17 ?c17 ?k17 ?a18 ?l18 ?c18 ?k18 ?a19 ?l19 ?c19 ?k19 ?a20 ?l20 ?c20 ?k20 ?a21 ?l21 ?c21 ?k21 ?a22 ?l22 ?c22 ?k22 ?a23 ?l23 ?c23 ?k23 ?a24 ?l24 ?c24 ?k24 ?a25 ?l25 ?c25 ?k25 ?a26 ?l26 ?c26 ?k26 ?a27 ?l27 ?c27 ?k27 ?a28 ?l28 ?c28 ?k28 ?a29 ?l29 ?c29 ?k29 ?a30 ?l30 ?c30 ?k30 ?a31 ?l31 ?c31 ?k31 ?a32 ?l32 ?c32 ?k32 ?a33 ?l33 ?c33 ?k33 ?gCR ?tyCR ?icCR ?gCS ?tyCS ?icCS ?gCB ?tyCB ?icCB ?gCN ?tyCN ?icCN ?gC ?tyC ?icC ?gSE ?tySE ?icSE ?gCL ?tyCL ?icCL ?aI1 ?tI1 ?lI1 ?cI1 ?kI1 ?aI2 ?tI2 ?lI2 ?cI2 ?kI2 ?aI3 ?tI3 ?lI3 ?cI3 ?kI3 ?aI4 ?tI4 ?lI4 ?cI4 ?kI4 ?aI5 ?tI5 ?lI5 ?cI5 ?kI5 ?aI6 ?tI6 ?lI6 ?cI6 ?kI6 ?aO ?nO ?lO ?cO ?kO ?aQ ?pgQ ?ptQ ?prQ ?lQ ?cQ ?kQ ?xCS ?vCS ?saCS ?exCS ?kCCS ?noCS ?xCB ?vCB ?saCB ?exCB ?kCCB ?noCB ?xCN ?vCN ?saCN ?exCN ?kCCN ?noCN ?gaCN ?ggCN ?hdCN ?ssCN ?haCN ?hnCN ?htCN ?hmCN ?mkC ?kpC ?pgC ?hdC ?poC ?saC ?nxC0 ?nxC1 ?nxC2 ?nxC3 ?mkSE ?kpSE ?pgSE ?hdSE ?poSE ?saSE ?nxSE0 ?nxSE1 ?nxSE2 ?nxSE3 ?mkCL ?kpCL ?pgCL ?hdCL ?poCL ?saCL ?uCNCR ?nMOST_SIGNS ?nLONGEST_TEXT ?nMOST_RULES ?nLONGEST_LEFT ?nLONGEST_RIGHT ?z_int ?z_len ?z_range ?z_abs ?z_max ?z_min ?z_tuple ?z_list ?z_str ?z_bool ?z_sorted ?z_repr ?z_isinstance ?z_enumerate ?z_all ?z_any
    (case a1 => k_is)
    (case l1 => k_is)
    (case c1 => k_is)
    (case k1 => k_is)
    (case a2 => k_is)
    (case l2 => k_is)
    (case c2 => k_is)
    (case k2 => k_is)
    (case a3 => k_is)
    (case l3 => k_is)
    (case c3 => k_is)
    (case k3 => k_is)
    (case a4 => k_is)
    (case l4 => k_is)
    (case c4 => k_is)
    (case k4 => k_is)
    (case a5 => k_is)
    (case l5 => k_is)
    (case c5 => k_is)
    (case k5 => k_is)
    (case a6 => k_is)
    (case l6 => k_is)
    (case c6 => k_is)
    (case k6 => k_is)
    (case a7 => k_is)
    (case l7 => k_is)
    (case c7 => k_is)
    (case k7 => k_is)
    (case a8 => k_is)
    (case l8 => k_is)
    (case c8 => k_is)
    (case k8 => k_is)
    (case a9 => k_is)
    (case l9 => k_is)
    (case c9 => k_is)
    (case k9 => k_is)
    (case a10 => k_is)
    (case l10 => k_is)
    (case c10 => k_is)
    (case k10 => k_is)
    (case a11 => k_is)
    (case l11 => k_is)
    (case c11 => k_is)
    (case k11 => k_is)
    (case a12 => k_is)
    (case l12 => k_is)
    (case c12 => k_is)
    (case k12 => k_is)
    (case a13 => k_is)
    (case l13 => k_is)
    (case c13 => k_is)
    (case k13 => k_is)
    (case a14 => k_is)
    (case l14 => k_is)
    (case c14 => k_is)
    (case k14 => k_is)
    (case a15 => k_is)
    (case l15 => k_is)
    (case c15 => k_is)
    (case k15 => k_is)
    (case a16 => k_is)
    (case l16 => k_is)
    (case c16 => k_is)
    (case k16 => k_is)
    (case a17 => k_is)
    (case l17 => k_is)
    (case c17 => k_is)
    (case k17 => k_is)
    (case a18 => k_is)
    (case l18 => k_is)
    (case c18 => k_is)
    (case k18 => k_is)
    (case a19 => k_is)
    (case l19 => k_is)
    (case c19 => k_is)
    (case k19 => k_is)
    (case a20 => k_is)
    (case l20 => k_is)
    (case c20 => k_is)
    (case k20 => k_is)
    (case a21 => k_is)
    (case l21 => k_is)
    (case c21 => k_is)
    (case k21 => k_is)
    (case a22 => k_is)
    (case l22 => k_is)
    (case c22 => k_is)
    (case k22 => k_is)
    (case a23 => k_is)
    (case l23 => k_is)
    (case c23 => k_is)
    (case k23 => k_is)
    (case a24 => k_is)
    (case l24 => k_is)
    (case c24 => k_is)
    (case k24 => k_is)
    (case a25 => k_is)
    (case l25 => k_is)
    (case c25 => k_is)
    (case k25 => k_is)
    (case a26 => k_is)
    (case l26 => k_is)
    (case c26 => k_is)
    (case k26 => k_is)
    (case a27 => k_is)
    (case l27 => k_is)
    (case c27 => k_is)
    (case k27 => k_is)
    (case a28 => k_is)
    (case l28 => k_is)
    (case c28 => k_is)
    (case k28 => k_is)
    (case a29 => k_is)
    (case l29 => k_is)
    (case c29 => k_is)
    (case k29 => k_is)
    (case a30 => k_is)
    (case l30 => k_is)
    (case c30 => k_is)
    (case k30 => k_is)
    (case a31 => k_is)
    (case l31 => k_is)
    (case c31 => k_is)
    (case k31 => k_is)
    (case a32 => k_is)
    (case l32 => k_is)
    (case c32 => k_is)
    (case k32 => k_is)
    (case a33 => k_is)
    (case l33 => k_is)
    (case c33 => k_is)
    (case k33 => k_is)
    (case gCR => k_is)
    (case tyCR => k_is)
    (case icCR => k_is)
    (case gCS => k_is)
    (case tyCS => k_is)
    (case icCS => k_is)
    (case gCB => k_is)
    (case tyCB => k_is)
    (case icCB => k_is)
    (case gCN => k_is)
    (case tyCN => k_is)
    (case icCN => k_is)
    (case gC => k_is)
    (case tyC => k_is)
    (case icC => k_is)
    (case gSE => k_is)
    (case tySE => k_is)
    (case icSE => k_is)
    (case gCL => k_is)
    (case tyCL => k_is)
    (case icCL => k_is)
    (case aI1 => k_is)
    (case tI1 => k_is)
    (case lI1 => k_is)
    (case cI1 => k_is)
    (case kI1 => k_is)
    (case aI2 => k_is)
    (case tI2 => k_is)
    (case lI2 => k_is)
    (case cI2 => k_is)
    (case kI2 => k_is)
    (case aI3 => k_is)
    (case tI3 => k_is)
    (case lI3 => k_is)
    (case cI3 => k_is)
    (case kI3 => k_is)
    (case aI4 => k_is)
    (case tI4 => k_is)
    (case lI4 => k_is)
    (case cI4 => k_is)
    (case kI4 => k_is)
    (case aI5 => k_is)
    (case tI5 => k_is)
    (case lI5 => k_is)
    (case cI5 => k_is)
    (case kI5 => k_is)
    (case aI6 => k_is)
    (case tI6 => k_is)
    (case lI6 => k_is)
    (case cI6 => k_is)
    (case kI6 => k_is)
    (case aO => k_is)
    (case nO => k_is)
    (case lO => k_is)
    (case cO => k_is)
    (case kO => k_is)
    (case aQ => k_is)
    (case pgQ => k_is)
    (case ptQ => k_is)
    (case prQ => k_is)
    (case lQ => k_is)
    (case cQ => k_is)
    (case kQ => k_is)
    (case xCS => k_is)
    (case vCS => decide +kernel)
    (case saCS => k_is)
    (case exCS => k_is)
    (case kCCS => k_is)
    (case noCS => k_is)
    (case xCB => k_is)
    (case vCB => decide +kernel)
    (case saCB => k_is)
    (case exCB => k_is)
    (case kCCB => k_is)
    (case noCB => k_is)
    (case xCN => k_is)
    (case vCN => decide +kernel)
    (case saCN => k_is)
    (case exCN => k_is)
    (case kCCN => k_is)
    (case noCN => k_is)
    (case gaCN => k_is)
    (case ggCN => k_is)
    (case hdCN => k_is)
    (case ssCN => k_is)
    (case haCN => k_is)
    (case hnCN => k_is)
    (case htCN => k_is)
    (case hmCN => k_is)
    (case mkC => k_is)
    (case kpC => k_is)
    (case pgC => k_is)
    (case hdC => k_is)
    (case poC => k_is)
    (case saC => k_is)
    (case nxC0 => k_is)
    (case nxC1 => k_is)
    (case nxC2 => k_is)
    (case nxC3 => k_is)
    (case mkSE => k_is)
    (case kpSE => k_is)
    (case pgSE => k_is)
    (case hdSE => k_is)
    (case poSE => k_is)
    (case saSE => k_is)
    (case nxSE0 => k_is)
    (case nxSE1 => k_is)
    (case nxSE2 => k_is)
    (case nxSE3 => k_is)
    (case mkCL => k_is)
    (case kpCL => k_is)
    (case pgCL => k_is)
    (case hdCL => k_is)
    (case poCL => k_is)
    (case saCL => k_is)
    (case uCNCR => k_is)
    (case nMOST_SIGNS => k_is)
    (case nLONGEST_TEXT => k_is)
    (case nMOST_RULES => k_is)
    (case nLONGEST_LEFT => k_is)
    (case nLONGEST_RIGHT => k_is)
    (case z_int => k_is)
    (case z_len => k_is)
    (case z_range => k_is)
    (case z_abs => k_is)
    (case z_max => k_is)
    (case z_min => k_is)
    (case z_tuple => k_is)
    (case z_list => k_is)
    (case z_str => k_is)
    (case z_bool => k_is)
    (case z_sorted => k_is)
    (case z_repr => k_is)
    (case z_isinstance => k_is)
    (case z_enumerate => k_is)
    (case z_all => k_is)
    (case z_any => k_is)
  case X =>
    exact fun _ _ _ _ _ h => h
